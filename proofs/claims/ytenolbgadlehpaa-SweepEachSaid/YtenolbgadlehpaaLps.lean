/-
  How the statements' own plan comes to the order in which sweeps ask, in plain words; single cells of rows that are written. No condition but those that each theorem names.
-/
import Derived.Test.YtenolbgadlehpaaPlan
import Derived.Test.YtenolbgadlehpaaLsm
set_option linter.unusedSimpArgs false
set_option linter.unusedVariables false
namespace Go.Proofs.Ytenolbgadlehpaa
open Go.RowKit

theorem ord_nodup {xs : List Sw} {now : Int} {l : List Nat} (h : IsO xs now l) : l.Nodup := h.pw.imp fun {a b} hab hne => by
  subst hne
  rw [lx_irr] at hab; cases hab
/-- One that is still to ask. -/
def cand (xs : List Sw) (now : Int) (l : List Nat) (t j : Nat) : Prop := j ∉ l.take t ∧ du xs j ≤ now
/-- The best one up to a place. -/
def Bst (xs : List Sw) (now : Int) (l : List Nat) (t i : Nat) (v : Int) : Prop :=
  (v = -1 ∧ ∀ j, j < i → ¬ cand xs now l t j) ∨ ∃ b : Nat, v = b ∧ b < i ∧ cand xs now l t b ∧ ∀ j, j < i → cand xs now l t j → j ≠ b → lx xs b j = true
theorem bst_zero (xs : List Sw) (now : Int) (l : List Nat) (t : Nat) : Bst xs now l t 0 (-1) := .inl ⟨rfl, fun j hj => by omega⟩
theorem bst_skip {xs : List Sw} {now : Int} {l : List Nat} {t i : Nat} {v : Int} (h : Bst xs now l t i v) (hc : ¬ cand xs now l t i) : Bst xs now l t (i + 1) v := by
  rcases h with ⟨h1, h2⟩ | ⟨b, h1, h2, h3, h4⟩
  · exact .inl ⟨h1, fun j hj => by
      by_cases e : j = i
      · subst e; exact hc
      · exact h2 j (by omega)⟩
  · exact .inr ⟨b, h1, by omega, h3, fun j hj hcj hne => by
      by_cases e : j = i
      · subst e; exact absurd hcj hc
      · exact h4 j (by omega) hcj hne⟩
theorem bst_first {xs : List Sw} {now : Int} {l : List Nat} {t i : Nat} (h : Bst xs now l t i (-1)) (hc : cand xs now l t i) : Bst xs now l t (i + 1) (i : Int) := by
  rcases h with ⟨h1, h2⟩ | ⟨b, h1, -⟩
  · exact .inr ⟨i, rfl, by omega, hc, fun j hj hcj hne => absurd hcj (h2 j (by omega))⟩
  · omega
theorem bst_less {xs : List Sw} {now : Int} {l : List Nat} {t i b : Nat} (h : Bst xs now l t i (b : Int)) (hc : cand xs now l t i) (hlt : du xs i < du xs b) : Bst xs now l t (i + 1) (i : Int) := by
  rcases h with ⟨h1, h2⟩ | ⟨b', h1, h2, h3, h4⟩
  · omega
  · obtain rfl : b = b' := by omega
    exact .inr ⟨i, rfl, by omega, hc, fun j hj hcj hne => by
      have hib : lx xs i b = true := lx_iff.2 (.inl hlt)
      by_cases e : j = b
      · subst e; exact hib
      · exact lx_trans hib (h4 j (by omega) hcj e)⟩
theorem bst_more {xs : List Sw} {now : Int} {l : List Nat} {t i b : Nat} (h : Bst xs now l t i (b : Int)) (hlt : ¬ du xs i < du xs b) : Bst xs now l t (i + 1) (b : Int) := by
  rcases h with ⟨h1, h2⟩ | ⟨b', h1, h2, h3, h4⟩
  · omega
  · obtain rfl : b = b' := by omega
    exact .inr ⟨b, rfl, by omega, h3, fun j hj hcj hne => by
      by_cases e : j = i
      · subst e
        exact lx_iff.2 (by omega)
      · exact h4 j (by omega) hcj hne⟩
theorem bst_nat {xs : List Sw} {now : Int} {l : List Nat} {t i : Nat} {v : Int} (h : Bst xs now l t i v) (hv : ¬ v < 0) : ∃ b : Nat, v = b ∧ b < i := by
  rcases h with ⟨h1, h2⟩ | ⟨b, h1, h2, -⟩
  · omega
  · exact ⟨b, h1, h2⟩
theorem bst_end {xs : List Sw} {now : Int} {l : List Nat} {t : Nat} {v : Int} (ho : IsO xs now l) (ht : t ≤ l.length) (h : Bst xs now l t xs.length v) : (v = -1 ∧ t = l.length) ∨ ∃ b : Nat, v = b ∧ l[t]? = some b ∧ b < xs.length ∧ b ∉ l.take t := by
  have hnd := ord_nodup ho
  have hcand : ∀ e, l[t]? = some e → cand xs now l t e ∧ e < xs.length := fun e he => by
    have hm := (ho.mem e).1 (List.mem_of_getElem? he)
    refine ⟨⟨fun hin => ?_, hm.2⟩, hm.1⟩
    obtain ⟨q, hq, hqe⟩ := List.mem_iff_getElem.1 hin
    rw [List.length_take] at hq
    rw [List.getElem_take] at hqe
    have := (List.getElem?_eq_some_iff.1 he)
    obtain ⟨h1, h2⟩ := this
    have := List.pairwise_iff_getElem.1 hnd q t (by omega) h1 (by omega)
    exact this (by rw [hqe, h2])
  rcases h with ⟨h1, h2⟩ | ⟨b, h1, h2, h3, h4⟩
  · refine .inl ⟨h1, ?_⟩
    by_cases htl : t < l.length
    · obtain ⟨c1, c2⟩ := hcand l[t] (List.getElem?_eq_getElem htl)
      exact absurd c1 (h2 _ c2)
    · omega
  · have hbl : b ∈ l := (ho.mem b).2 ⟨h2, h3.2⟩
    obtain ⟨q, hq, hqb⟩ := List.mem_iff_getElem.1 hbl
    have hqt : t ≤ q := by
      by_cases e : q < t
      · exact absurd (List.mem_iff_getElem.2 ⟨q, by rw [List.length_take]; omega, by rw [List.getElem_take]; exact hqb⟩) h3.1
      · omega
    have htl : t < l.length := by omega
    obtain ⟨c1, c2⟩ := hcand l[t] (List.getElem?_eq_getElem htl)
    refine .inr ⟨b, h1, ?_, h2, h3.1⟩
    rw [List.getElem?_eq_getElem htl]
    by_cases e : l[t] = b
    · rw [e]
    · have g1 := h4 _ c2 c1 e
      have hqn : t ≠ q := fun e' => by subst e'; exact e hqb
      have g2 := List.pairwise_iff_getElem.1 ho.pw t q htl hq (by omega)
      rw [hqb] at g2
      rw [lx_asym g1] at g2
      cases g2
theorem planL_other (xs : List Sw) (every room : Int) {i : Nat} : ∀ (l : List Nat), i ∉ l → (planL xs every room l).1[i]? = xs[i]? := by
  intro l
  unfold planL
  have h : ∀ (l : List Nat) (s : List Sw × List Int), i ∉ l → (l.foldl (plan1 xs every room) s).1[i]? = s.1[i]? := by
    intro l
    induction l with
    | nil => intro s _; rfl
    | cons j r ih =>
      intro s hn
      rw [List.foldl_cons, ih _ fun h => hn (List.mem_cons_of_mem _ h)]
      simp only [plan1]
      rw [List.getElem?_set_ne fun e => hn (by rw [← e]; simp)]
  exact fun hn => h l (xs, []) hn

/-- A row of bools. -/
def eD : El Bool := ⟨fun b => [.bool b], 1, by decide, fun _ => rfl, by
  intro x u hu
  simp at hu
  subst hu; rfl⟩
theorem info4 : (Try.prog.info? 4).map (fun i => (i.zero, i.size, i.bytes)) = some (some (.bool false), 1, 1) := by kernel_rfl
theorem made_bools (n : Nat) : (madeCells (Value.bool false).cells (n * 1)).toList = eD.cs (List.replicate n false) := by
  have e : (Value.bool false).cells = #[.bool false] := rfl
  rw [e, toList_madeCells_one, Nat.mul_one]
  induction n with
  | zero => rfl
  | succ n ih => rw [List.replicate_succ, ih]; rfl
theorem own_b {w : World} {base g n c : Nat} {D : List Bool} (h : w.ownsRow base 4 1 (.slice (some ⟨g, 0, none⟩) n c) n (eD.cs D)) {i : Nat} {b : Bool} (hi : D[i]? = some b) : w.cell? ⟨g, i, none⟩ = some (.bool b) ∧ w.frozen? ⟨g, i, none⟩ = false := by
  refine ⟨?_, h.frozenAt i⟩
  have hl := h.1
  rw [cs_length] at hl
  have hlt := (List.getElem?_eq_some_iff.1 hi).1
  have hl' : D.length * 1 = n * 1 := hl
  rw [h.cellAt i (by omega)]
  have := cs_at (E := eD) D i b 0 hi (by show 0 < 1; omega)
  rw [show i * eD.N + 0 = i by show i * 1 + 0 = i; omega] at this
  exact this
theorem own_bset {w : World} {base g n c : Nat} {D : List Bool} (h : w.ownsRow base 4 1 (.slice (some ⟨g, 0, none⟩) n c) n (eD.cs D)) (i : Nat) (b : Bool) : (w.setCell ⟨g, i, none⟩ (.bool b)).ownsRow base 4 1 (.slice (some ⟨g, 0, none⟩) n c) n (eD.cs (D.set i b)) ∧ w.grownBy (w.setCell ⟨g, i, none⟩ (.bool b)) (some g) := by
  obtain ⟨h1, h2⟩ := h.stored i (.bool b)
  refine ⟨?_, h2⟩
  have e : (eD.cs D).set i (.bool b) = eD.cs (D.set i b) := by
    have key : ∀ (D : List Bool) (i : Nat), (eD.cs D).set i (.bool b) = eD.cs (D.set i b) := by
      intro D
      induction D with
      | nil => intro i; rfl
      | cons d r ih =>
        intro i
        cases i with
        | zero => rfl
        | succ i =>
          show Value.bool d :: (eD.cs r).set i (.bool b) = Value.bool d :: eD.cs (r.set i b)
          rw [ih]
    exact key D i
  rw [← e]
  exact h1
theorem own_c {w : World} {base g n c : Nat} {ys : List Sw} (h : w.ownsRow base 39 4 (.slice (some ⟨g, 0, none⟩) n c) n (eW.cs ys)) {i : Nat} {y : Sw} (hi : ys[i]? = some y) :
    w.cell? ⟨g, i * 4, none⟩ = some (.int .u32 y.a) ∧ w.cell? ⟨g, i * 4 + 1, none⟩ = some (.int .i64 y.b) ∧ w.cell? ⟨g, i * 4 + 2, none⟩ = some (.int .i64 y.d) ∧ w.cell? ⟨g, i * 4 + 3, none⟩ = some (.int .i64 y.n) ∧ ∀ j, w.frozen? ⟨g, j, none⟩ = false := by
  have hl := h.1
  rw [cs_length] at hl
  have hl' : ys.length * 4 = n * 4 := hl
  have hlt := (List.getElem?_eq_some_iff.1 hi).1
  have key : ∀ j, j < 4 → w.cell? ⟨g, i * 4 + j, none⟩ = (swl y)[j]? := fun j hj => by
    rw [h.cellAt _ (by omega)]
    exact cs_at (E := eW) ys i y j hi hj
  exact ⟨key 0 (by omega), key 1 (by omega), key 2 (by omega), key 3 (by omega), h.frozenAt⟩
theorem cs_set3 : ∀ (ys : List Sw) (i : Nat) (y : Sw) (m : Int), ys[i]? = some y → (eW.cs ys).set (i * 4 + 3) (.int .i64 m) = eW.cs (ys.set i ⟨y.a, y.b, y.d, m⟩)
  | [], i, y, m, h => by simp at h
  | z :: r, 0, y, m, h => by
    simp at h
    subst h
    simp [El.cs, eW, swl]
  | z :: r, i + 1, y, m, h => by
    have ih := cs_set3 r i y m (by simpa using h)
    have e : eW.cs (z :: r) = swl z ++ eW.cs r := rfl
    have e2 : eW.cs ((z :: r).set (i + 1) ⟨y.a, y.b, y.d, m⟩) = swl z ++ eW.cs (r.set i ⟨y.a, y.b, y.d, m⟩) := rfl
    have hl : (swl z).length = 4 := rfl
    rw [e, e2, ← ih, List.set_append_right _ _ (by rw [hl]; omega), hl, show (i + 1) * 4 + 3 - 4 = i * 4 + 3 by omega]
theorem cs_set2 : ∀ (ys : List Sw) (i : Nat) (y : Sw) (m : Int), ys[i]? = some y → (eW.cs ys).set (i * 4 + 2) (.int .i64 m) = eW.cs (ys.set i ⟨y.a, y.b, m, y.n⟩)
  | [], i, y, m, h => by simp at h
  | z :: r, 0, y, m, h => by
    simp at h
    subst h
    simp [El.cs, eW, swl]
  | z :: r, i + 1, y, m, h => by
    have ih := cs_set2 r i y m (by simpa using h)
    have e : eW.cs (z :: r) = swl z ++ eW.cs r := rfl
    have e2 : eW.cs ((z :: r).set (i + 1) ⟨y.a, y.b, m, y.n⟩) = swl z ++ eW.cs (r.set i ⟨y.a, y.b, m, y.n⟩) := rfl
    have hl : (swl z).length = 4 := rfl
    rw [e, e2, ← ih, List.set_append_right _ _ (by rw [hl]; omega), hl, show (i + 1) * 4 + 2 - 4 = i * 4 + 2 by omega]
theorem own_set3 {w : World} {base g n c : Nat} {ys : List Sw} (h : w.ownsRow base 39 4 (.slice (some ⟨g, 0, none⟩) n c) n (eW.cs ys)) {i : Nat} {y : Sw} (hi : ys[i]? = some y) (m : Int) :
    (w.setCell ⟨g, i * 4 + 3, none⟩ (.int .i64 m)).ownsRow base 39 4 (.slice (some ⟨g, 0, none⟩) n c) n (eW.cs (ys.set i ⟨y.a, y.b, y.d, m⟩)) ∧ w.grownBy (w.setCell ⟨g, i * 4 + 3, none⟩ (.int .i64 m)) (some g) := by
  have := h.stored (i * 4 + 3) (.int .i64 m)
  rwa [cs_set3 ys i y m hi] at this
theorem own_set2 {w : World} {base g n c : Nat} {ys : List Sw} (h : w.ownsRow base 39 4 (.slice (some ⟨g, 0, none⟩) n c) n (eW.cs ys)) {i : Nat} {y : Sw} (hi : ys[i]? = some y) (m : Int) :
    (w.setCell ⟨g, i * 4 + 2, none⟩ (.int .i64 m)).ownsRow base 39 4 (.slice (some ⟨g, 0, none⟩) n c) n (eW.cs (ys.set i ⟨y.a, y.b, m, y.n⟩)) ∧ w.grownBy (w.setCell ⟨g, i * 4 + 2, none⟩ (.int .i64 m)) (some g) := by
  have := h.stored (i * 4 + 2) (.int .i64 m)
  rwa [cs_set2 ys i y m hi] at this
/-- A row of one address. -/
def oA (a : Int) : Value → World → Prop := fun v W => ∃ b, v = .slice (some ⟨b, 0, none⟩) 1 1 ∧ Rw eA W (some ⟨b, 0, none⟩) [a]
theorem stable_oA (a : Int) : Stable (oA a) := fun _ _ _ ⟨b, hv, hP⟩ hb => ⟨b, hv, hP.below hb⟩
end Go.Proofs.Ytenolbgadlehpaa
