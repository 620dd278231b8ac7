/-
  Cases and deeds as plain data and in memory, and rows of them; what a load and a comparison of one do. No condition.
-/
import Derived.Test.YtbjlklkmcpnemaaChecked
import GoSem.Claim
import Derived.WalkKit
import Derived.Lib.Strings
import Derived.WalkLawsBesides
import Derived.BigQuiet
import Derived.Deep.QuietTactic
import Derived.Deep.MidRow
import Derived.Deep.CutRange
import Derived.Deep.LoopGhost
import Derived.Deep.Slices
import Derived.Deep.OwnRows
import Derived.Deep.AppendLies
import Derived.Laws.OwnMore
import Derived.Laws.AppendOwn
import Derived.Laws.ResultCell
import Derived.Laws.BitsAllLaws
import Derived.Maps.AppendAt
import Derived.RegionTactic
import Derived.OwnWalk
import Derived.Lib.Hide
import Derived.Lib.MinMax
import Derived.Lib.QuietBelow
import Derived.StillTailTactics
set_option linter.unusedSimpArgs false
set_option linter.unusedVariables false
namespace Go.Proofs.Ytbjlklkmcpnemaa
open Go.RowKit

theorem bdrewN {B : Nat} {a w : World} (h : Below B a w) (n : Nat) : Below B a (w.drewN n) := h.trans ⟨rfl, rfl, rfl, Nat.le_refl _, fun _ _ => rfl⟩
theorem bcell {W w1 : World} (hb : Below W.heap.size W w1) : (∀ b o, b < W.heap.size → w1.cell? ⟨b, o, none⟩ = W.cell? ⟨b, o, none⟩) ∧ (∀ b o, b < W.heap.size → w1.frozen? ⟨b, o, none⟩ = W.frozen? ⟨b, o, none⟩) :=
  ⟨fun b o h => hb.cell (p := ⟨b, o, none⟩) h, fun b o h => hb.frozen (p := ⟨b, o, none⟩) h⟩
theorem ret_bool {a b : Bool} (h : a = b) : Ending.returned (.bool a) = .returned (.bool b) := by rw [h]
theorem ret_int {k : IntKind} {a b : Int} (h : a = b) : Ending.returned (.int k a) = .returned (.int k b) := by rw [h]
theorem hx_below {w : World} (o : Obj) {w1 : World} (h : Below (w.alloc o).heap.size (w.alloc o) w1) : Below w.heap.size w w1 :=
  ((Below.refl _ w).alloc (Nat.le_refl _) o).trans (h.mono (by simp))
theorem i64_nat {j : Nat} (h : j ≤ 140737488355328) : IntKind.i64.wrap (j : Int) = (j : Int) := by rw [IntKind.wrap_i64]; omega
theorem add_block (y : Addr) (k : Nat) : (y.add k).block = y.block := by unfold Addr.add; split <;> rfl

/-- What an element of a row is, as cells. -/
structure El (α : Type) where
  cl : α → List Value
  N : Nat
  pos : 0 < N
  len : ∀ x, (cl x).length = N
  one : ∀ x, ∀ u ∈ cl x, u.oneCell' = true
/-- All cells of a row. -/
def El.cs {α : Type} (E : El α) (xs : List α) : List Value := xs.flatMap E.cl
section
variable {α : Type} {E : El α}
theorem cs_append (xs ys : List α) : E.cs (xs ++ ys) = E.cs xs ++ E.cs ys := by simp [El.cs]
theorem cs_nil : E.cs [] = [] := rfl
theorem cs_one (xs : List α) : ∀ u ∈ E.cs xs, u.oneCell' = true := by
  intro u hu
  obtain ⟨r, _, h⟩ := List.mem_flatMap.1 hu
  exact E.one r u h
theorem cs_length (xs : List α) : (E.cs xs).length = xs.length * E.N := by
  induction xs with
  | nil => simp [El.cs]
  | cons x r ih => rw [El.cs, List.flatMap_cons, List.length_append, ← El.cs, ih, E.len, List.length_cons, Nat.succ_mul]; omega
theorem cs_at (xs : List α) : ∀ (q : Nat) (x : α) (j : Nat), xs[q]? = some x → j < E.N → (E.cs xs)[q * E.N + j]? = (E.cl x)[j]? := by
  induction xs with
  | nil => intro q x j h; simp at h
  | cons y r ih =>
    intro q x j h hj
    rw [El.cs, List.flatMap_cons, ← El.cs]
    cases q with
    | zero =>
      simp at h
      subst h
      rw [List.getElem?_append_left (by rw [E.len]; omega)]
      simp
    | succ q =>
      rw [List.getElem?_append_right (by rw [E.len, Nat.succ_mul]; omega), E.len, show (q + 1) * E.N + j - E.N = q * E.N + j by rw [Nat.succ_mul]; omega]
      exact ih q x j (by simpa using h) hj
/-- The elements that a slice's value has, wherever they lie. -/
def Rw (E : El α) (w : World) (A : Option Addr) (xs : List α) : Prop :=
  xs.length ≤ 140737488355328 ∧ ∀ (q : Nat) (x : α), xs[q]? = some x → ∃ y, A = some y ∧ ∀ j v, (E.cl x)[j]? = some v → w.cell? (y.add (q * E.N + j)) = some v
theorem Rw.nil (w : World) (A : Option Addr) : Rw E w A [] := ⟨by simp, fun q x h => by simp at h⟩
theorem Rw.cells_keep {w w' : World} {A : Option Addr} {xs : List α} (h : Rw E w A xs) (hc : ∀ y a v, A = some y → a.block = y.block → w.cell? a = some v → w'.cell? a = some v) : Rw E w' A xs := by
  refine ⟨h.1, fun q x hq => ?_⟩
  obtain ⟨y, hy, hc'⟩ := h.2 q x hq
  exact ⟨y, hy, fun j v hv => hc y _ v hy (add_block _ _) (hc' j v hv)⟩
theorem Rw.below {w w' : World} {A : Option Addr} {xs : List α} (h : Rw E w A xs) (hb : Below w.heap.size w w') : Rw E w' A xs :=
  h.cells_keep fun _ _ _ _ _ hc => (hb.cell (World.block_lt_of_cell? _ _ hc)).trans hc
theorem Rw.belowB {w w' : World} {A : Option Addr} {xs : List α} {B : Nat} (h : Rw E w A xs) (hb : Below B w w') (hB : ∀ y, A = some y → y.block < B) : Rw E w' A xs :=
  h.cells_keep fun y a v hy ha hc => (hb.cell (by rw [ha]; exact hB y hy)).trans hc
theorem Rw.grown {w w' : World} {A : Option Addr} {xs : List α} {row : Option Nat} (h : Rw E w A xs) (hg : w.grownBy w' row) (hne : ∀ x, A = some x → some x.block ≠ row) : Rw E w' A xs :=
  h.cells_keep fun y a v hy ha hc => hg.cell hc (by rw [ha]; exact hne y hy)
theorem Rw.drewN {w : World} {A : Option Addr} {xs : List α} (h : Rw E w A xs) (n : Nat) : Rw E (w.drewN n) A xs := h.below (bdrewN (Below.refl _ _) n)
theorem rw_some {w : World} {A : Option Addr} {xs : List α} (h : Rw E w A xs) (hn : 0 < xs.length) : ∃ y, A = some y := by
  obtain ⟨y, hy, _⟩ := h.2 0 xs[0] (List.getElem?_eq_getElem hn)
  exact ⟨y, hy⟩
theorem rw_none {w : World} {xs : List α} (h : Rw E w none xs) : xs = [] := by
  rcases Nat.eq_zero_or_pos xs.length with h0 | h0
  · exact List.eq_nil_of_length_eq_zero h0
  · obtain ⟨x, hx⟩ := rw_some h h0
    cases hx
theorem Rw.at {w : World} {y : Addr} {xs : List α} (h : Rw E w (some y) xs) {q : Nat} {x : α} (hq : xs[q]? = some x) : ∀ j v, (E.cl x)[j]? = some v → w.cell? ((y.add (q * E.N)).add j) = some v := by
  obtain ⟨y', hy, hc⟩ := h.2 q x hq
  injection hy with hy
  subst hy
  intro j v hv
  rw [Addr.add_add]
  exact hc j v hv
/-- All cells of the row, one behind the other. -/
theorem Rw.cells {w : World} {y : Addr} {xs : List α} (h : Rw E w (some y) xs) : ∀ j u, (E.cs xs)[j]? = some u → w.cell? (y.add j) = some u := by
  intro j u hu
  have hN := E.pos
  have hj : j < xs.length * E.N := by have := (List.getElem?_eq_some_iff.1 hu).1; rwa [cs_length] at this
  have e : j = j / E.N * E.N + j % E.N := by have := Nat.div_add_mod j E.N; rw [Nat.mul_comm] at this; omega
  have hq : j / E.N < xs.length := (Nat.div_lt_iff_lt_mul hN).2 hj
  have hx := List.getElem?_eq_getElem hq
  obtain ⟨y', hy, hc⟩ := h.2 (j / E.N) _ hx
  injection hy with hy
  subst hy
  rw [e, cs_at xs (j / E.N) _ (j % E.N) hx (Nat.mod_lt _ hN)] at hu
  rw [e]
  exact hc _ _ hu
/-- A part of the row. -/
theorem Rw.take {w : World} {A : Option Addr} {xs : List α} (h : Rw E w A xs) (n : Nat) : Rw E w A (xs.take n) := by
  refine ⟨by have := h.1; rw [List.length_take]; omega, fun q x hq => h.2 q x ?_⟩
  rw [List.getElem?_take] at hq
  split at hq
  · exact hq
  · cases hq
theorem Rw.drop {w : World} {y : Addr} {xs : List α} (h : Rw E w (some y) xs) (n : Nat) : Rw E w (some (y.add (n * E.N))) (xs.drop n) := by
  refine ⟨by have := h.1; rw [List.length_drop]; omega, fun q x hq => ?_⟩
  rw [List.getElem?_drop] at hq
  obtain ⟨y', hy, hc⟩ := h.2 (n + q) x hq
  injection hy with hy
  subst hy
  refine ⟨_, rfl, fun j v hv => ?_⟩
  rw [Addr.add_add, show n * E.N + (q * E.N + j) = (n + q) * E.N + j by rw [Nat.add_mul]; omega]
  exact hc j v hv
/-- Where the rest of a row lies. -/
def dA (N : Nat) (A : Option Addr) (c k : Nat) : Option Addr := if c = k then A else A.map (·.add (k * N))
theorem Rw.rest {w : World} {A : Option Addr} {xs : List α} (h : Rw E w A xs) {c : Nat} (hc : xs.length ≤ c) (k : Nat) : Rw E w (dA E.N A c k) (xs.drop k) := by
  unfold dA
  split
  · rename_i e
    rw [List.drop_eq_nil_of_le (by omega)]
    exact Rw.nil _ _
  · cases A with
    | none =>
      rw [rw_none h, List.drop_nil]
      exact Rw.nil _ _
    | some y => exact h.drop k
/-- A row of the call's own reads so. -/
theorem own_rw {w : World} {base : Nat} {e : TypeId} {v : Value} {n : Nat} {xs : List α} (h : w.ownsRow base e E.N v n (E.cs xs)) (hn : xs.length ≤ 140737488355328) : ∃ A cap, v = .slice A xs.length cap ∧ xs.length ≤ cap ∧ cap ≤ maxLen ∧ n = xs.length ∧ Rw E w A xs ∧ (∀ y, A = some y → base ≤ y.block ∧ y.block < w.heap.size) := by
  have hl := h.1
  rw [cs_length] at hl
  have hnx : n = xs.length := (Nat.eq_of_mul_eq_mul_right E.pos hl).symm
  subst hnx
  rcases h.2 with ⟨rfl, h0⟩ | ⟨g, cap, cur, rfl, hb, hg, hle, hm, hs, ht⟩
  · have : xs = [] := List.eq_nil_of_length_eq_zero h0
    subst this
    exact ⟨none, 0, rfl, by simp, by unfold maxLen; omega, rfl, Rw.nil _ _, fun y e => by cases e⟩
  · refine ⟨some ⟨g, 0, none⟩, cap, rfl, hle, hm, rfl, ⟨hn, fun q x hq => ⟨_, rfl, fun j v hv => ?_⟩⟩, fun y e => by injection e with e; subst e; exact ⟨hb, (Array.getElem?_eq_some_iff.1 hg).1⟩⟩
    have hj : j < E.N := by have := (List.getElem?_eq_some_iff.1 hv).1; rwa [E.len] at this
    refine h.cells (g := g) rfl _ _ ?_
    rw [cs_at xs q x j hq hj]
    exact hv
theorem own_keep {w w' : World} {base : Nat} {e : TypeId} {size : Nat} {v : Value} {n : Nat} {xs : List Value} (h : w.ownsRow base e size v n xs) (hb : Below w.heap.size w w') : w'.ownsRow base e size v n xs := by
  refine ⟨h.1, h.2.imp id ?_⟩
  rintro ⟨g, cap, cur, e1, e2, e3, r⟩
  refine ⟨g, cap, cur, e1, e2, ?_, r⟩
  rw [hb.block g (Array.getElem?_eq_some_iff.1 e3).1]
  exact e3
theorem own_base {w : World} {base B : Nat} {e : TypeId} {size : Nat} {v : Value} {n : Nat} {xs : List Value} (h : w.ownsRow base e size v n xs) (hb : B ≤ base) : w.ownsRow B e size v n xs := by
  refine ⟨h.1, h.2.imp id ?_⟩
  rintro ⟨g, cap, cur, e1, e2, e3, r⟩
  exact ⟨g, cap, cur, e1, Nat.le_trans hb e2, e3, r⟩
end

section
variable {ops : Array Oper} {rest : List Oper} {o : Oper} {a : Act} {C : World → Prop} {Q : Act → Prop}
end

section
variable {ops : Array Oper} {rest : List Oper} {o : Oper} {a : Act} {C : World → Prop} {Q : Act → Prop}
end

section
variable {ops : Array Oper} {rest : List Oper} {o : Oper} {a : Act} {C : World → Prop} {Q : Act → Prop}
end
section
variable {ops : Array Oper} {rest : List Oper} {o : Oper} {a : Act} {w : World} {Q : Exit → Act → World → Prop}
theorem wpList_want (hw : Region.wanted o (yielded ops a.tmps) = true) (h : ∀ K : Act → World → Prop, (∀ a w, wpList Try.prog ops Q rest a w → K a w) → o.wp Try.prog a w K Q) : wpList Try.prog ops Q (o :: rest) a w :=
  wpList_step fun K hK => by rw [if_pos hw]; exact h K hK
end
end Go.Proofs.Ytbjlklkmcpnemaa
