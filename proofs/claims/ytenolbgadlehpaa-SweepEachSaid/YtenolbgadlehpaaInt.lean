/-
  A row of numbers of one's own: made, read, written; it lies apart from rows of addresses. No condition.
-/
import Derived.Test.YtenolbgadlehpaaLps
import Derived.Test.YtenolbgadlehpaaHcm
import Derived.Test.YtenolbgadlehpaaPlan
import Derived.Test.YtenolbgadlehpaaCat
set_option linter.unusedSimpArgs false
set_option linter.unusedVariables false
namespace Go.Proofs.Ytenolbgadlehpaa
open Go.RowKit

theorem made_ints (n : Nat) : (madeCells (Value.int .i64 0).cells (n * 1)).toList = eN.cs (List.replicate n 0) := by
  have e : (Value.int .i64 0).cells = #[.int .i64 0] := rfl
  rw [e, toList_madeCells_one, Nat.mul_one]
  induction n with
  | zero => rfl
  | succ n ih => rw [List.replicate_succ, ih]; rfl
theorem own_n {w : World} {base g n c : Nat} {D : List Nat} (h : w.ownsRow base 3 1 (.slice (some ⟨g, 0, none⟩) n c) n (eN.cs D)) {i : Nat} {b : Nat} (hi : D[i]? = some b) : w.cell? ⟨g, i, none⟩ = some (.int .i64 (b : Int)) ∧ w.frozen? ⟨g, i, none⟩ = false := by
  refine ⟨?_, h.frozenAt i⟩
  have hl := h.1
  rw [cs_length] at hl
  have hlt := (List.getElem?_eq_some_iff.1 hi).1
  have hl' : D.length * 1 = n * 1 := hl
  rw [h.cellAt i (by omega)]
  have := cs_at (E := eN) D i b 0 hi (by show 0 < 1; omega)
  rw [show i * eN.N + 0 = i by show i * 1 + 0 = i; omega] at this
  exact this
theorem own_nset {w : World} {base g n c : Nat} {D : List Nat} (h : w.ownsRow base 3 1 (.slice (some ⟨g, 0, none⟩) n c) n (eN.cs D)) (i : Nat) (b : Nat) : (w.setCell ⟨g, i, none⟩ (.int .i64 (b : Int))).ownsRow base 3 1 (.slice (some ⟨g, 0, none⟩) n c) n (eN.cs (D.set i b)) ∧ w.grownBy (w.setCell ⟨g, i, none⟩ (.int .i64 (b : Int))) (some g) := by
  obtain ⟨h1, h2⟩ := h.stored i (.int .i64 (b : Int))
  refine ⟨?_, h2⟩
  have e : (eN.cs D).set i (.int .i64 (b : Int)) = eN.cs (D.set i b) := by
    have key : ∀ (D : List Nat) (i : Nat), (eN.cs D).set i (.int .i64 (b : Int)) = eN.cs (D.set i b) := by
      intro D
      induction D with
      | nil => intro i; rfl
      | cons d r ih =>
        intro i
        cases i with
        | zero => rfl
        | succ i =>
          show Value.int .i64 (d : Int) :: (eN.cs r).set i (.int .i64 (b : Int)) = Value.int .i64 (d : Int) :: eN.cs (r.set i b)
          rw [ih]
    exact key D i
  rw [← e]
  exact h1
/-- What is a number of 32 bits lies elsewhere. -/
theorem apart_n {w : World} {base g n : Nat} {D : List Nat} (h : w.ownsRow base 3 1 (.slice (some ⟨g, 0, none⟩) n n) n (eN.cs D)) {a : Addr} {v : Int} (hc : w.cell? a = some (.int .u32 v)) : a.block ≠ g := by
  intro e
  obtain ⟨h1, h2⟩ := h
  rcases h2 with ⟨h2, -⟩ | ⟨g', cap, cur, hv, -, hg, -, -, hs, ht⟩
  · cases h2
  · injection hv with e1 e2 e3
    injection e1 with e1
    injection e1 with e1
    subst e1
    subst e3
    unfold World.cell? at hc
    rw [e, hg] at hc
    dsimp only at hc
    split at hc
    · cases hc
    · have hm : (Value.int .u32 v) ∈ cur.toList := by
        rw [← Array.getElem?_toList] at hc
        exact List.mem_of_getElem? hc
      rw [List.take_of_length_le (by rw [Array.length_toList, hs]; exact Nat.le_refl _)] at ht
      rw [ht] at hm
      unfold El.cs at hm
      obtain ⟨d, -, hd⟩ := List.mem_flatMap.1 hm
      have hd' : Value.int .u32 v ∈ [Value.int .i64 (d : Int)] := hd
      simp at hd'
theorem apart_rw {w : World} {base g n : Nat} {D : List Nat} (h : w.ownsRow base 3 1 (.slice (some ⟨g, 0, none⟩) n n) n (eN.cs D)) {y : Addr} {xs : List Sw} (hr : Rw eW w (some y) xs) {q : Nat} {x : Sw} (hq : xs[q]? = some x) : y.block ≠ g := by
  have h1 := hr.at hq 0 _ rfl
  have h2 := apart_n h h1
  rwa [add_block, add_block] at h2
theorem apart_ra {w : World} {base g n : Nat} {D : List Nat} (h : w.ownsRow base 3 1 (.slice (some ⟨g, 0, none⟩) n n) n (eN.cs D)) {y : Addr} {xs : List Int} (hr : Rw eA w (some y) xs) {q : Nat} {x : Int} (hq : xs[q]? = some x) : y.block ≠ g := by
  have h1 := hr.at hq 0 _ rfl
  have h2 := apart_n h h1
  rwa [add_block, add_block] at h2
/-- What a sweep alone wants: its prefix, the choice, the account, the row. -/
structure Ex (w : World) (bA bC g : Nat) (A B : Int) (E P : Nat) (ls : List Nat) (A1 : Option Addr) (x : Sw) (wr : World) : Prop where
  bm : Bm wr bA A B
  cm : Cm wr bC ⟨0, 0, 0, (E : Int), 0, 0, 0, 0, 0⟩
  own : wr.ownsRow g 3 1 (.slice (some ⟨g, 0, none⟩) P P) P (eN.cs ls)
  row : Rw eW wr A1 [x]
  bel : Below w.heap.size w wr
  base : w.heap.size ≤ g
  gA : bA < g
  gC : bC < g
theorem Ex.keep {w wr w' : World} {bA bC g : Nat} {A B : Int} {E P : Nat} {ls : List Nat} {A1 A1' : Option Addr} {x x' : Sw} (h : Ex w bA bC g A B E P ls A1 x wr) (hb : Below wr.heap.size wr w') (hr : Rw eW w' A1' [x']) : Ex w bA bC g A B E P ls A1' x' w' :=
  ⟨h.bm.below hb, h.cm.below hb, h.own.kept (grown_below hb none) (.inr (by simp [Value.ownBlock])), hr, h.bel.trans (hb.mono h.bel.size), h.base, h.gA, h.gC⟩
theorem Cm.grown {W W' : World} {b g : Nat} {x : Cf} (h : Cm W b x) (hg : W.grownBy W' (some g)) (hne : b ≠ g) : Cm W' b x := by
  have k : ∀ j v, W.cell? ⟨b, j, none⟩ = some v → W'.cell? ⟨b, j, none⟩ = some v := fun j v hc => hg.cell hc (by simpa using hne)
  exact ⟨Nat.lt_of_lt_of_le h.lt hg.size, k _ _ h.c0, k _ _ h.c1, k _ _ h.c2, k _ _ h.c3, k _ _ h.c4, k _ _ h.c5, k _ _ h.c6, k _ _ h.c7, k _ _ h.c8⟩
theorem Ex.set {w wr : World} {bA bC g : Nat} {A B : Int} {E P : Nat} {ls : List Nat} {A1 : Option Addr} {x : Sw} (h : Ex w bA bC g A B E P ls A1 x wr) (i t : Nat) : Ex w bA bC g A B E P (ls.set i t) A1 x (wr.setCell ⟨g, i, none⟩ (.int .i64 (t : Int))) := by
  obtain ⟨o1, o2⟩ := own_nset h.own i t
  have hA := h.gA
  have hC := h.gC
  refine ⟨⟨o2.cell h.bm.1 (by simp; omega), o2.cell h.bm.2 (by simp; omega)⟩, h.cm.grown o2 (by omega), o1, ?_, h.bel.grown o2 h.bel.size (fun k e => by injection e with e; have := h.base; omega), h.base, h.gA, h.gC⟩
  exact h.row.grown o2 fun y hy e => by
    subst hy
    injection e with e
    exact apart_rw h.own h.row (q := 0) rfl e
theorem Ex.setA {w wr : World} {bA bC g : Nat} {A B : Int} {E P : Nat} {ls : List Nat} {A1 A2 : Option Addr} {x : Sw} {zs : List Int} (h : Ex w bA bC g A B E P ls A1 x wr) (hz : Rw eA wr A2 zs) (i t : Nat) : Rw eA (wr.setCell ⟨g, i, none⟩ (.int .i64 (t : Int))) A2 zs := by
  obtain ⟨o1, o2⟩ := own_nset h.own i t
  cases zs with
  | nil => exact Rw.nil _ _
  | cons z r =>
    refine hz.grown o2 fun y hy e => ?_
    subst hy
    injection e with e
    exact apart_ra h.own hz (q := 0) rfl e
end Go.Proofs.Ytenolbgadlehpaa
