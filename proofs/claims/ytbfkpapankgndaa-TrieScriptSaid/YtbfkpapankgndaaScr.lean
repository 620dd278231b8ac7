/-
  What TrieScript keeps count of, as plain numbers: where a prefix lies in its row, the row without it, the best prefix so far. No condition.
-/
import Derived.Test.YtbfkpapankgndaaDp
namespace Go.Proofs.Ytbfkpapankgndaa
open Go.RowKit

/-- Where a prefix lies in a row, as far as it has been looked through. -/
def At (ys : List (Int × Int)) (y : Int × Int) (i : Nat) (n : Int) : Prop := (n = -1 ∧ y ∉ ys.take i) ∨ ∃ j : Nat, n = (j : Int) ∧ j < i ∧ ys[j]? = some y
theorem at_nil (ys : List (Int × Int)) (y : Int × Int) : At ys y 0 (-1) := .inl ⟨rfl, by simp⟩
theorem At.hit {ys : List (Int × Int)} {y : Int × Int} {i : Nat} (h : ys[i]? = some y) : At ys y (i + 1) i := .inr ⟨i, rfl, by omega, h⟩
theorem At.miss {ys : List (Int × Int)} {y z : Int × Int} {i : Nat} {n : Int} (h : At ys y i n) (hz : ys[i]? = some z) (hne : z ≠ y) : At ys y (i + 1) n := by
  rcases h with ⟨h1, h2⟩ | ⟨j, h1, h2, h3⟩
  · refine .inl ⟨h1, ?_⟩
    rw [List.take_add_one, hz]
    simp only [Option.toList_some, List.mem_append, List.mem_singleton, not_or]
    exact ⟨h2, fun e => hne e.symm⟩
  · exact .inr ⟨j, h1, by omega, h3⟩
theorem At.iff {ys : List (Int × Int)} {y : Int × Int} {n : Int} (h : At ys y ys.length n) : (0 ≤ n ↔ y ∈ ys) := by
  rcases h with ⟨h1, h2⟩ | ⟨j, h1, h2, h3⟩
  · rw [List.take_length] at h2
    constructor
    · intro h; omega
    · intro h; exact absurd h h2
  · constructor
    · intro _; exact List.mem_of_getElem? h3
    · intro _; omega
theorem At.get {ys : List (Int × Int)} {y : Int × Int} {n : Int} (h : At ys y ys.length n) (h0 : 0 ≤ n) : ∃ j : Nat, n = (j : Int) ∧ j < ys.length ∧ ys[j]? = some y := by
  rcases h with ⟨h1, _⟩ | h
  · omega
  · exact h
theorem At.isIn {T : Tr} {ys : List (Int × Int)} {y : Int × Int} {n : Int} (h : At ys y ys.length n) (hp : (ent 32 0 T).Perm ys) : isIn T y.1 y.2 = decide (0 ≤ n) := by
  rw [isIn_perm hp, decide_eq_decide]
  exact h.iff.symm
theorem At.low {ys : List (Int × Int)} {y : Int × Int} {i : Nat} {n : Int} (h : At ys y i n) : -1 ≤ n ∧ n < (i : Int) := by
  rcases h with ⟨h1, _⟩ | ⟨j, h1, h2, _⟩ <;> omega

theorem erase_eq {ys : List (Int × Int)} {j : Nat} : ys.eraseIdx j = ys.take j ++ ys.drop (j + 1) := List.eraseIdx_eq_take_drop_succ ys j
theorem erase_perm {ys : List (Int × Int)} {y : Int × Int} {j : Nat} (h : ys[j]? = some y) : ys.Perm (y :: (ys.take j ++ ys.drop (j + 1))) := by
  obtain ⟨hl, hy⟩ := List.getElem?_eq_some_iff.1 h
  have e : ys = ys.take j ++ y :: ys.drop (j + 1) := by
    conv => lhs; rw [← List.take_append_drop j ys]
    rw [List.drop_eq_getElem_cons hl, hy]
  conv => lhs; rw [e]
  exact List.perm_middle
theorem pf_append (l m : List (Int × Int)) : pf (l ++ m) = pf l ++ pf m := by simp [pf]
theorem pf_take (ys : List (Int × Int)) (j : Nat) : (pf ys).take (j * 2) = pf (ys.take j) := by
  by_cases hj : j ≤ ys.length
  · conv => lhs; rw [← List.take_append_drop j ys, pf_append]
    rw [List.take_append_of_le_length (by rw [pf_length, List.length_take]; omega), List.take_of_length_le (by rw [pf_length, List.length_take]; omega)]
  · rw [List.take_of_length_le (by rw [pf_length]; omega), List.take_of_length_le (by omega)]
/-- The first ones of a row. -/
theorem own_take {w : World} {base g n cap j : Nat} {ys : List (Int × Int)} (h : w.ownsRow base 32 2 (.slice (some ⟨g, 0, none⟩) n cap) ys.length (pf ys)) (hj : j ≤ ys.length) : w.ownsRow base 32 2 (.slice (some ⟨g, 0, none⟩) j cap) j (pf (ys.take j)) := by
  refine ⟨by rw [pf_length, List.length_take]; omega, ?_⟩
  rcases h.2 with ⟨h1, _⟩ | ⟨g', cap', cur, e, hg, hh, hc, hm, hs, ht⟩
  · cases h1
  · injection e with e1 e2 e3
    injection e1 with e1
    injection e1 with e1
    subst e1 e3
    refine .inr ⟨g, cap, cur, rfl, hg, hh, by omega, hm, hs, ?_⟩
    rw [← pf_take, ← ht, List.take_take]
    congr 1
    omega
/-- The cells behind one. -/
theorem own_behind {w : World} {base g n cap j : Nat} {ys : List (Int × Int)} (h : w.ownsRow base 32 2 (.slice (some ⟨g, 0, none⟩) n cap) ys.length (pf ys)) (i : Nat) (u : Value) (hu : (pf (ys.drop j))[i]? = some u) : w.cell? ((⟨g, j * 2, none⟩ : Addr).add i) = some u := by
  rcases h.2 with ⟨h1, _⟩ | ⟨g', cap', cur, e, hg, hh, hc, hm, hs, ht⟩
  · cases h1
  · injection e with e1 e2 e3
    injection e1 with e1
    injection e1 with e1
    subst e1
    rw [Addr.add_mid, cell_of_row _ _ _ _ _ _ hh, ← Array.getElem?_toList]
    have hi : i < (pf (ys.drop j)).length := (List.getElem?_eq_some_iff.1 hu).1
    rw [pf_length, List.length_drop] at hi
    have h1 : (pf ys)[j * 2 + i]? = some u := by
      have e2 : pf ys = pf (ys.take j) ++ pf (ys.drop j) := by rw [← pf_append, List.take_append_drop]
      rw [e2, List.getElem?_append_right (by rw [pf_length, List.length_take]; omega), pf_length, List.length_take]
      rw [show j * 2 + i - min j ys.length * 2 = i by omega]
      exact hu
    rw [← ht, List.getElem?_take, if_pos (by omega)] at h1
    exact h1

/-- The best one so far, whether there is one, whether one overlaps. -/
structure Bs (zs : List (Int × Int)) (x ba bb : Int) (best : Int × Int) (is over : Bool) : Prop where
  isd : is = zs.any fun y => hasB y.1 y.2 x
  ovd : over = zs.any fun y => overB y.1 y.2 ba bb
  no : is = false → best = (0, 0)
  yes : is = true → best ∈ zs ∧ hasB best.1 best.2 x = true ∧ ∀ y ∈ zs, hasB y.1 y.2 x = true → y.2 ≤ best.2
theorem bs_nil (x ba bb : Int) : Bs [] x ba bb (0, 0) false false := ⟨rfl, rfl, fun _ => rfl, fun h => by cases h⟩
theorem Bs.take {zs : List (Int × Int)} {x ba bb : Int} {best y : Int × Int} {is over : Bool} (h : Bs zs x ba bb best is over) (hy : hasB y.1 y.2 x = true) (hb : is = false ∨ best.2 < y.2) : Bs (zs ++ [y]) x ba bb y true (over || overB y.1 y.2 ba bb) := by
  refine ⟨by simp [hy], by simp [h.ovd], (fun h => (by cases h)), fun _ => ⟨by simp, hy, fun z hz hzx => ?_⟩⟩
  rcases List.mem_append.1 hz with hz | hz
  · rcases hb with hb | hb
    · have := h.isd
      rw [hb] at this
      have h2 : (zs.any fun y => hasB y.1 y.2 x) = true := List.any_eq_true.2 ⟨z, hz, hzx⟩
      rw [h2] at this
      cases this
    · cases his : is
      · have := h.isd
        rw [his] at this
        have h2 : (zs.any fun y => hasB y.1 y.2 x) = true := List.any_eq_true.2 ⟨z, hz, hzx⟩
        rw [h2] at this
        cases this
      · have := (h.yes his).2.2 z hz hzx
        omega
  · have : z = y := by simpa using hz
    subst this
    exact Int.le_refl _
theorem Bs.leave {zs : List (Int × Int)} {x ba bb : Int} {best y : Int × Int} {is over : Bool} (h : Bs zs x ba bb best is over) (hn : hasB y.1 y.2 x = false ∨ (is = true ∧ y.2 ≤ best.2)) : Bs (zs ++ [y]) x ba bb best is (over || overB y.1 y.2 ba bb) := by
  refine ⟨?_, by simp [h.ovd], h.no, fun his => ?_⟩
  · rcases hn with hn | ⟨hn, _⟩
    · simp [h.isd, hn]
    · rw [List.any_append, ← h.isd, hn]; rfl
  · obtain ⟨h1, h2, h3⟩ := h.yes his
    refine ⟨by simp [h1], h2, fun z hz hzx => ?_⟩
    rcases List.mem_append.1 hz with hz | hz
    · exact h3 z hz hzx
    · have : z = y := by simpa using hz
      subst this
      rcases hn with hn | ⟨_, hn⟩
      · rw [hn] at hzx; cases hzx
      · exact hn
theorem Bs.done {T : Tr} {ys : List (Int × Int)} {x ba bb : Int} {best : Int × Int} {is over : Bool} (h : Bs ys x ba bb best is over) (hp : (ent 32 0 T).Perm ys) : lst (ovl x 32 32 0 T) = best ∧ anyOv T x 32 = is ∧ anyOv T ba bb = over := by
  have e1 : anyOv T x 32 = is := by
    rw [h.isd, Bool.eq_iff_iff, any_has, List.any_eq_true]
    constructor
    · rintro ⟨y, hy, hh⟩; exact ⟨y, hp.mem_iff.1 hy, hh⟩
    · rintro ⟨y, hy, hh⟩; exact ⟨y, hp.mem_iff.2 hy, hh⟩
  have e2 : anyOv T ba bb = over := by
    rw [h.ovd, Bool.eq_iff_iff, any_iff, List.any_eq_true]
    constructor
    · rintro ⟨y, hy, hh⟩; exact ⟨y, hp.mem_iff.1 hy, hh⟩
    · rintro ⟨y, hy, hh⟩; exact ⟨y, hp.mem_iff.2 hy, hh⟩
  refine ⟨?_, e1, e2⟩
  cases his : is
  · rw [h.no his]
    exact longest_none (by rw [e1, his])
  · obtain ⟨b1, b2, b3⟩ := longest_best (T := T) (x := x) (by rw [e1, his])
    obtain ⟨h1, h2, h3⟩ := h.yes his
    rcases b3 best (hp.mem_iff.2 h1) h2 with e | e
    · exact e.symm
    · have := h3 _ (hp.mem_iff.1 b1) b2
      omega
end Go.Proofs.Ytbfkpapankgndaa
