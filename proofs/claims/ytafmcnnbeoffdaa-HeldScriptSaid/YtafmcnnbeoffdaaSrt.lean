/-
  Rows that rise: who is in them, what a change does to them, which address is the first that nobody has. No condition but those that each theorem names.
-/
import Derived.Test.YtafmcnnbeoffdaaUsedWalk
set_option linter.unusedSimpArgs false
set_option linter.unusedVariables false
namespace Go.Proofs.Ytafmcnnbeoffdaa
open Go.RowKit

/-- A row that rises. -/
def Srt (ys : List Hr) : Prop := ys.Pairwise (fun x y => x.a < y.a)
theorem Srt.nil : Srt [] := List.Pairwise.nil
theorem Srt.lt {ys : List Hr} (h : Srt ys) {i j : Nat} {x y : Hr} (hij : i < j) (hx : ys[i]? = some x) (hy : ys[j]? = some y) : x.a < y.a := by
  obtain ⟨h1, rfl⟩ := List.getElem?_eq_some_iff.1 hx
  obtain ⟨h2, rfl⟩ := List.getElem?_eq_some_iff.1 hy
  exact List.pairwise_iff_getElem.1 h i j h1 h2 hij
theorem Srt.at {ys : List Hr} (h : Srt ys) {x : Hr} (hx : x ∈ ys) : ys[lo ys x.a]? = some x := by
  obtain ⟨q, hq, rfl⟩ := List.mem_iff_getElem.1 hx
  have hx' := List.getElem?_eq_getElem hq
  have hge : ¬ q < lo ys ys[q].a := fun hlt => by
    have := lo_lt _ ys q _ hlt hx'
    omega
  have hle := lo_le ys[q].a ys
  rcases Nat.lt_or_ge (lo ys ys[q].a) q with hlt | hge2
  · exfalso
    have hlL : lo ys ys[q].a < ys.length := by omega
    obtain ⟨z, hz⟩ : ∃ z, ys[lo ys ys[q].a]? = some z := ⟨ys[lo ys ys[q].a], List.getElem?_eq_getElem hlL⟩
    have h1 := h.lt hlt hz hx'
    exact lo_ge _ ys z hz h1
  · have : lo ys ys[q].a = q := by omega
    rw [this]
    exact hx'
theorem Srt.mem {ys : List Hr} (h : Srt ys) {x : Hr} (hx : x ∈ ys) : isAt ys x.a = true ∧ gt ys x.a = x := by
  have e := h.at hx
  have hi : isAt ys x.a = true := by unfold isAt; rw [e]; simp
  exact ⟨hi, by unfold gt; rw [if_pos hi, e]; rfl⟩
theorem isAt_mem {ys : List Hr} {a : Int} (h : isAt ys a = true) : gt ys a ∈ ys ∧ (gt ys a).a = a := by
  obtain ⟨x, hx, hxa, _⟩ := isAt_some h
  have : gt ys a = x := by unfold gt; rw [if_pos h, hx]; rfl
  rw [this]
  exact ⟨List.mem_of_getElem? hx, hxa⟩
theorem isAt_none {ys : List Hr} {a : Int} (h : isAt ys a = false) : gt ys a = zh := by
  unfold gt
  rw [if_neg (by rw [h]; simp)]
theorem Srt.not {ys : List Hr} (h : Srt ys) {a : Int} (hi : isAt ys a = false) : ∀ x ∈ ys, x.a ≠ a := by
  rintro x hx rfl
  rw [(h.mem hx).1] at hi
  cases hi
theorem take_lo {ys : List Hr} (a : Int) : ∀ x ∈ ys.take (lo ys a), x.a < a := by
  intro x hx
  obtain ⟨q, hq, rfl⟩ := List.mem_iff_getElem.1 hx
  rw [List.length_take] at hq
  rw [List.getElem_take]
  exact lo_lt a ys q _ (by omega) (List.getElem?_eq_getElem (by omega))
theorem Srt.drop_lo {ys : List Hr} (h : Srt ys) (a : Int) : ∀ x ∈ ys.drop (lo ys a), a ≤ x.a := by
  intro x hx
  obtain ⟨q, hq, rfl⟩ := List.mem_iff_getElem.1 hx
  rw [List.length_drop] at hq
  rw [List.getElem_drop]
  obtain ⟨z, hz⟩ : ∃ z, ys[lo ys a]? = some z := ⟨_, List.getElem?_eq_getElem (by omega)⟩
  have hz2 := lo_ge a ys z hz
  rcases Nat.eq_zero_or_pos q with rfl | hp
  · have := (List.getElem?_eq_some_iff.1 hz).2
    simp only [Nat.add_zero]
    rw [this]; omega
  · have := h.lt (show lo ys a < lo ys a + q by omega) hz (List.getElem?_eq_getElem (by omega))
    omega
theorem Srt.ins {ys : List Hr} {g : Hr} (h : Srt ys) (hi : isAt ys g.a = false) : Srt (ins ys g) := by
  unfold Ytafmcnnbeoffdaa.ins Srt
  rw [List.append_assoc, List.pairwise_append]
  refine ⟨h.sublist (List.take_sublist _ _), ?_, ?_⟩
  · rw [List.singleton_append, List.pairwise_cons]
    refine ⟨fun x hx => ?_, h.sublist (List.drop_sublist _ _)⟩
    have h1 := h.drop_lo g.a x hx
    have h2 := h.not hi x (List.mem_of_mem_drop hx)
    omega
  · intro x hx y hy
    have h1 := take_lo g.a x hx
    rcases List.mem_append.1 hy with hy | hy
    · have : y = g := by simpa using hy
      rw [this]; exact h1
    · have := h.drop_lo g.a y hy
      omega
theorem Srt.del {ys : List Hr} (h : Srt ys) (a : Int) : Srt (del ys a) := by
  unfold Ytafmcnnbeoffdaa.del
  refine List.Pairwise.sublist ?_ h
  conv => rhs; rw [← List.take_append_drop (lo ys a) ys]
  refine List.Sublist.append (List.Sublist.refl _) ?_
  rw [← List.drop_drop]
  exact List.drop_sublist _ _
theorem mem_ins {ys : List Hr} {g x : Hr} : x ∈ ins ys g ↔ x = g ∨ x ∈ ys := by
  refine ⟨ins_sub, ?_⟩
  unfold Ytafmcnnbeoffdaa.ins
  rintro (rfl | hx)
  · simp
  · have : x ∈ ys.take (lo ys g.a) ++ ys.drop (lo ys g.a) := by rw [List.take_append_drop]; exact hx
    rcases List.mem_append.1 this with h | h
    · exact List.mem_append_left _ (List.mem_append_left _ h)
    · exact List.mem_append_right _ h
theorem Srt.mem_del {ys : List Hr} (h : Srt ys) {a : Int} (hi : isAt ys a = true) {x : Hr} : x ∈ Ytafmcnnbeoffdaa.del ys a ↔ x ∈ ys ∧ x.a ≠ a := by
  obtain ⟨z, hz, hza, hlt⟩ := isAt_some hi
  constructor
  · intro hx
    refine ⟨del_sub hx, ?_⟩
    unfold Ytafmcnnbeoffdaa.del at hx
    rcases List.mem_append.1 hx with hx | hx
    · have := take_lo a x hx; omega
    · obtain ⟨q, hq, rfl⟩ := List.mem_iff_getElem.1 hx
      rw [List.length_drop] at hq
      rw [List.getElem_drop]
      have := h.lt (show lo ys a < lo ys a + 1 + q by omega) hz (List.getElem?_eq_getElem (by omega))
      omega
  · rintro ⟨hx, hne⟩
    unfold Ytafmcnnbeoffdaa.del
    have hx' : x ∈ ys.take (lo ys a) ++ ys.drop (lo ys a) := by rw [List.take_append_drop]; exact hx
    rcases List.mem_append.1 hx' with h1 | h1
    · exact List.mem_append_left _ h1
    · refine List.mem_append_right _ ?_
      rw [List.drop_eq_getElem_cons hlt] at h1
      rcases List.mem_cons.1 h1 with rfl | h1
      · exfalso
        have := (List.getElem?_eq_some_iff.1 hz).2
        rw [this] at hne
        exact hne hza
      · exact h1
theorem del_length {ys : List Hr} {a : Int} (hi : isAt ys a = true) : (del ys a).length + 1 = ys.length := by
  obtain ⟨_, _, _, hlt⟩ := isAt_some hi
  unfold del
  rw [List.length_append, List.length_take, List.length_drop]
  omega
/-- What a row with one more, or one less, tells. -/
theorem Srt.ins_at {ys : List Hr} {g : Hr} (h : Srt ys) (hi : isAt ys g.a = false) (a : Int) : isAt (Ytafmcnnbeoffdaa.ins ys g) a = (decide (a = g.a) || isAt ys a) ∧ gt (Ytafmcnnbeoffdaa.ins ys g) a = if a = g.a then g else gt ys a := by
  have hs := h.ins hi
  by_cases e : a = g.a
  · subst e
    have := hs.mem (mem_ins.2 (.inl rfl) : g ∈ Ytafmcnnbeoffdaa.ins ys g)
    exact ⟨by rw [this.1]; simp, by rw [this.2]; simp⟩
  · rw [if_neg e, decide_eq_false e, Bool.false_or]
    cases hb : isAt ys a
    · cases hc : isAt (Ytafmcnnbeoffdaa.ins ys g) a
      · exact ⟨rfl, by rw [isAt_none hb, isAt_none hc]⟩
      · exfalso
        obtain ⟨h1, h2⟩ := isAt_mem hc
        rcases mem_ins.1 h1 with h3 | h3
        · rw [h3] at h2; exact e h2.symm
        · exact h.not hb _ h3 h2
    · obtain ⟨h1, h2⟩ := isAt_mem hb
      have := hs.mem (mem_ins.2 (.inr h1) : gt ys a ∈ Ytafmcnnbeoffdaa.ins ys g)
      rw [h2] at this
      exact this
theorem Srt.del_at {ys : List Hr} {b : Int} (h : Srt ys) (hi : isAt ys b = true) (a : Int) : isAt (Ytafmcnnbeoffdaa.del ys b) a = (!decide (a = b) && isAt ys a) ∧ gt (Ytafmcnnbeoffdaa.del ys b) a = if a = b then zh else gt ys a := by
  have hs := h.del b
  by_cases e : a = b
  · subst e
    have hf : isAt (Ytafmcnnbeoffdaa.del ys a) a = false := by
      cases hc : isAt (Ytafmcnnbeoffdaa.del ys a) a
      · rfl
      · obtain ⟨h1, h2⟩ := isAt_mem hc
        exact absurd h2 ((h.mem_del hi).1 h1).2
    exact ⟨by rw [hf]; simp, by rw [isAt_none hf]; simp⟩
  · rw [if_neg e, decide_eq_false e, Bool.not_false, Bool.true_and]
    cases hb : isAt ys a
    · cases hc : isAt (Ytafmcnnbeoffdaa.del ys b) a
      · exact ⟨rfl, by rw [isAt_none hb, isAt_none hc]⟩
      · exfalso
        obtain ⟨h1, h2⟩ := isAt_mem hc
        exact h.not hb _ (del_sub h1) h2
    · obtain ⟨h1, h2⟩ := isAt_mem hb
      have := hs.mem ((h.mem_del hi).2 ⟨h1, by rw [h2]; exact e⟩)
      rw [h2] at this
      exact this
theorem lo_ins {ys : List Hr} {g : Hr} (h : Srt ys) (hi : isAt ys g.a = false) : lo (ins ys g) g.a = lo ys g.a := by
  have hs := h.ins hi
  have e := hs.at (mem_ins.2 (.inl rfl) : g ∈ Ytafmcnnbeoffdaa.ins ys g)
  have hle := lo_le g.a ys
  have e2 : (ins ys g)[lo ys g.a]? = some g := by
    unfold ins
    rw [List.append_assoc, List.getElem?_append_right (by rw [List.length_take]; omega), List.length_take, Nat.min_eq_left hle, Nat.sub_self]
    rfl
  rcases Nat.lt_trichotomy (lo (ins ys g) g.a) (lo ys g.a) with hl | hl | hl
  · have := hs.lt hl e e2; omega
  · exact hl
  · have := hs.lt hl e2 e; omega
/-- Who puts one and takes it has the row that was. -/
theorem del_ins {ys : List Hr} {g : Hr} (h : Srt ys) (hi : isAt ys g.a = false) : del (ins ys g) g.a = ys := by
  have hle := lo_le g.a ys
  unfold del
  rw [lo_ins h hi]
  unfold ins
  have e1 : (ys.take (lo ys g.a)).length = lo ys g.a := by rw [List.length_take]; omega
  rw [List.append_assoc, List.take_append_of_le_length (by omega), List.take_of_length_le (by omega), List.drop_append, List.drop_eq_nil_of_le (by omega), e1]
  rw [show lo ys g.a + 1 - lo ys g.a = 1 by omega]
  simp
/-- A row that rises, of owners that may be, of up to 48, is right. -/
theorem Srt.right {ys : List Hr} (h : Srt ys) (hm : ∀ x ∈ ys, mayB x.T = true) (hn : ys.length ≤ 48) : rightB ys = true := by
  unfold rightB
  rw [decide_eq_true hn, Bool.true_and]
  unfold rPre
  rw [List.all_eq_true]
  intro i _
  unfold rOk
  split
  · rename_i x hx
    rw [hm x (List.mem_of_getElem? hx), Bool.true_and]
    rcases i with _ | j
    · rfl
    · obtain ⟨y, hy⟩ : ∃ y, ys[j]? = some y := ⟨_, List.getElem?_eq_getElem (by have := (List.getElem?_eq_some_iff.1 hx).1; omega)⟩
      simp only [Nat.add_sub_cancel, hy]
      rw [decide_eq_true (h.lt (Nat.lt_succ_self j) hy hx)]
      simp
  · rfl
/-- The statements' own row rises, and its owners may be. -/
theorem SM_good (xs : List Ac) (hx : ∀ a ∈ xs, a.ok) (k : Nat) : Srt (SM xs k) ∧ (∀ x ∈ SM xs k, mayB x.T = true) ∧ (SM xs k).length ≤ 48 := by
  induction k with
  | zero => exact ⟨Srt.nil, fun x h => by simp [SM_zero] at h, by simp [SM_zero]⟩
  | succ k ih =>
    obtain ⟨h1, h2, h3⟩ := ih
    by_cases hk : k < xs.length
    · rw [SM_succ (List.getElem?_eq_getElem hk)]
      refine ⟨?_, ?_, sm_len h3⟩
      · unfold sm
        split
        · rename_i e
          obtain ⟨_, e2, _, e4⟩ := put_zero e.1
          rw [e4]
          exact h1.ins e2
        · exact h1
      · unfold sm
        split
        · rename_i e
          obtain ⟨_, e2, e3, e4⟩ := put_zero e.1
          rw [e4]
          intro x hx'
          rcases mem_ins.1 hx' with rfl | h
          · exact e3
          · exact h2 x h
        · exact h2
    · have : SM xs (k + 1) = SM xs k := by
        unfold SM
        rw [List.take_of_length_le (by omega), List.take_of_length_le (by omega)]
      rw [this]
      exact ⟨h1, h2, h3⟩

/-- How many of the first addresses are held. -/
def cn (ys : List Hr) (a : Int) (k : Nat) : Nat := (ys.filter fun x => decide (a ≤ x.a ∧ x.a < a + k)).length
theorem cn_zero (ys : List Hr) (a : Int) : cn ys a 0 = 0 := by
  unfold cn
  rw [List.length_eq_zero_iff, List.filter_eq_nil_iff]
  intro x _
  rw [decide_eq_true_eq]
  omega
theorem one_of {ys : List Hr} (h : Srt ys) (v : Int) : (ys.filter fun x => decide (x.a = v)).length = if isAt ys v = true then 1 else 0 := by
  induction ys with
  | nil => rfl
  | cons x r ih =>
    have hr : Srt r := (List.pairwise_cons.1 h).2
    have hx := (List.pairwise_cons.1 h).1
    rw [List.filter_cons]
    by_cases e : x.a = v
    · have hi : isAt (x :: r) v = true := by rw [← e]; exact (h.mem (List.mem_cons_self ..)).1
      have hn : r.filter (fun x => decide (x.a = v)) = [] := by
        rw [List.filter_eq_nil_iff]
        intro y hy
        have := hx y hy
        simp; omega
      rw [if_pos (by simpa using e), if_pos hi, hn]
      rfl
    · rw [if_neg (by simpa using e), ih hr]
      have : isAt (x :: r) v = isAt r v := by
        cases hc : isAt r v
        · cases hd : isAt (x :: r) v
          · rfl
          · exfalso
            obtain ⟨h1, h2⟩ := isAt_mem hd
            rcases List.mem_cons.1 h1 with h3 | h3
            · rw [h3] at h2; exact e h2
            · exact hr.not hc _ h3 h2
        · obtain ⟨h1, h2⟩ := isAt_mem hc
          have := h.mem (List.mem_cons_of_mem x h1)
          rw [h2] at this
          exact this.1
      rw [this]
theorem cn_succ {ys : List Hr} (h : Srt ys) (a : Int) (k : Nat) : cn ys a (k + 1) = cn ys a k + if isAt ys (a + k) = true then 1 else 0 := by
  rw [← one_of h (a + k)]
  unfold cn
  symm
  refine filter_two _ _ _ (fun x => ?_) ys
  simp only [decide_eq_true_eq, decide_eq_false_iff_not, Int.natCast_add, Int.natCast_one]
  omega
theorem cn_used {a b : Int} {Z : Nat} (hok : okB a b = true) (hz : p2 b = Z) (ys : List Hr) : cn ys a Z = usedN a b ys := by
  unfold cn usedN us
  rw [List.take_length]
  congr 1
  refine List.filter_congr fun x _ => ?_
  rw [Bool.eq_iff_iff, has_iff hok, hz]
  simp
/-- The first of the first addresses that nobody has. -/
def fr (ys : List Hr) (a : Int) : Nat → Option Nat
  | 0 => none
  | k + 1 => match fr ys a k with
    | some j => some j
    | none => if isAt ys (a + k) = true then none else some k
theorem fr_of {ys : List Hr} {a : Int} {K : Nat} (h1 : ∀ j : Nat, j < K → isAt ys (a + j) = true) : ∀ k, k ≤ K → fr ys a k = none
  | 0, _ => rfl
  | k + 1, hk => by
    rw [fr, fr_of h1 k (by omega)]
    simp [h1 k (by omega)]
theorem fr_some {ys : List Hr} {a : Int} {K : Nat} (h1 : ∀ j : Nat, j < K → isAt ys (a + j) = true) (h2 : isAt ys (a + K) = false) : ∀ k, K < k → fr ys a k = some K
  | 0, h => by omega
  | k + 1, hk => by
    rw [fr]
    rcases Nat.lt_or_ge K k with h | h
    · rw [fr_some h1 h2 k h]
    · obtain rfl : k = K := by omega
      rw [fr_of h1 k (Nat.le_refl _)]
      simp [h2]
theorem nxk_good {ys : List Hr} (h : Srt ys) {a b : Int} (hs : 0 ≤ sizeOf a b) (i : Nat) (hi : i ≤ ys.length) : nxk a b ys i ≤ sizeOf a b ∧ (∀ j : Int, 0 ≤ j → j < nxk a b ys i → ∃ x ∈ ys.take i, x.a = a + j) ∧ (nxk a b ys i < sizeOf a b → ∀ x ∈ ys.take i, x.a ≠ a + nxk a b ys i) := by
  induction i with
  | zero => exact ⟨by simp [nxk]; exact hs, fun j h0 h1 => by simp [nxk] at h1; omega, fun _ x hx => by simp at hx⟩
  | succ i ih =>
    obtain ⟨h1, h2, h3⟩ := ih (by omega)
    have hx := List.getElem?_eq_getElem (show i < ys.length by omega)
    have hn0 := (nxk_in a b ys i).1
    rw [nxk_succ hx]
    have ht : ys.take (i + 1) = ys.take i ++ [ys[i]] := by rw [List.take_add_one, hx]; rfl
    rw [ht]
    have hlt : ∀ x ∈ ys.take i, x.a < ys[i].a := by
      intro x hx'
      obtain ⟨q, hq, rfl⟩ := List.mem_iff_getElem.1 hx'
      rw [List.length_take] at hq
      rw [List.getElem_take]
      exact h.lt (show q < i by omega) (List.getElem?_eq_getElem (by omega)) hx
    unfold nxS
    split
    · rename_i e
      refine ⟨by omega, fun j h0 hj => ?_, fun _ x hx' => ?_⟩
      · by_cases ej : j < nxk a b ys i
        · obtain ⟨x, hx', e'⟩ := h2 j h0 ej
          exact ⟨x, List.mem_append_left _ hx', e'⟩
        · exact ⟨ys[i], List.mem_append_right _ (List.mem_singleton_self _), by rw [← e.2]; omega⟩
      · rcases List.mem_append.1 hx' with h4 | h4
        · have := hlt x h4; omega
        · have : x = ys[i] := by simpa using h4
          rw [this, ← e.2]; omega
    · rename_i e
      refine ⟨h1, fun j h0 hj => ?_, fun hlt' x hx' => ?_⟩
      · obtain ⟨x, hx', e'⟩ := h2 j h0 hj
        exact ⟨x, List.mem_append_left _ hx', e'⟩
      · rcases List.mem_append.1 hx' with h4 | h4
        · exact h3 hlt' x h4
        · have : x = ys[i] := by simpa using h4
          rw [this]
          intro e'
          exact e ⟨hlt', e'.symm⟩
/-- Which address is the next is what going through all of them tells. -/
theorem next_fr {ys : List Hr} (h : Srt ys) {a b : Int} {Z : Nat} (hs : sizeOf a b = Z) : match fr ys a Z with
    | some j => nextB a b ys = true ∧ nextA a b ys = a + j
    | none => nextB a b ys = false ∧ nextA a b ys = 0 := by
  obtain ⟨h1, h2, h3⟩ := nxk_good h (a := a) (b := b) (by omega) ys.length (Nat.le_refl _)
  have hn0 := (nxk_in a b ys ys.length).1
  obtain ⟨K, hK⟩ : ∃ K : Nat, nxk a b ys ys.length = K := ⟨(nxk a b ys ys.length).toNat, by omega⟩
  have hNK : nextK a b ys = K := hK
  rw [hK] at h1 h2 h3
  rw [List.take_length] at h2 h3
  have g1 : ∀ j : Nat, j < K → isAt ys (a + j) = true := fun j hj => by
    obtain ⟨x, hx, e⟩ := h2 j (by omega) (by omega)
    rw [← e]
    exact (h.mem hx).1
  by_cases hlt : (K : Int) < sizeOf a b
  · have g2 : isAt ys (a + K) = false := by
      cases hc : isAt ys (a + K)
      · rfl
      · obtain ⟨m1, m2⟩ := isAt_mem hc
        exact absurd m2 (h3 hlt _ m1)
    rw [fr_some g1 g2 Z (by omega)]
    have hB : nextB a b ys = true := by unfold nextB; rw [hNK]; simpa using hlt
    exact ⟨hB, by unfold nextA; rw [if_pos hB, hNK]⟩
  · rw [fr_of g1 Z (by omega)]
    have hB : nextB a b ys = false := by unfold nextB; rw [hNK]; simpa using hlt
    exact ⟨hB, by unfold nextA; rw [if_neg (by rw [hB]; simp)]⟩
end Go.Proofs.Ytafmcnnbeoffdaa
