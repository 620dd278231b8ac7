/-
  Part of the proofs of layer 18: several texts in one file. No condition of its own.
-/
import Derived.Test.YtilneflfeegnfaaGreatChecked
import GoSem.Claim
import Derived.WalkKit
import Derived.Lib.Strings
import Derived.WalkLawsBesides
import Derived.BigQuiet
import Derived.Deep.QuietTactic
import Derived.Deep.MidRow
import Derived.Deep.CutRange
import Derived.Deep.LoopGhost
import Derived.Deep.Slices
import Derived.Deep.OwnRows
import Derived.Deep.AppendLies
import Derived.Laws.OwnMore
import Derived.Laws.AppendOwn
import Derived.Laws.ResultCell
import Derived.Laws.BitsAllLaws
import Derived.Maps.AppendAt
import Derived.RegionTactic
import Derived.OwnWalk
import Derived.Lib.Hide
import Derived.Lib.MinMax
import Derived.Lib.QuietBelow
import Derived.StillTailTactics
import Derived.Lib.SliceRun
import Derived.Orders
import Derived.Tactics
import Derived.Below
import Derived.BigGuard
/-
  Cases and deeds as plain data and in memory, and rows of them; what a load and a comparison of one do. No condition.
-/
set_option linter.unusedSimpArgs false
set_option linter.unusedVariables false
namespace Go.Proofs.YtilneflfeegnfaaGreat
open Go.RowKit

theorem bdrewN {B : Nat} {a w : World} (h : Below B a w) (n : Nat) : Below B a (w.drewN n) := h.trans ⟨rfl, rfl, rfl, Nat.le_refl _, fun _ _ => rfl⟩
theorem bcell {W w1 : World} (hb : Below W.heap.size W w1) : (∀ b o, b < W.heap.size → w1.cell? ⟨b, o, none⟩ = W.cell? ⟨b, o, none⟩) ∧ (∀ b o, b < W.heap.size → w1.frozen? ⟨b, o, none⟩ = W.frozen? ⟨b, o, none⟩) :=
  ⟨fun b o h => hb.cell (p := ⟨b, o, none⟩) h, fun b o h => hb.frozen (p := ⟨b, o, none⟩) h⟩
theorem ret_bool {a b : Bool} (h : a = b) : Ending.returned (.bool a) = .returned (.bool b) := by rw [h]
theorem ret_int {k : IntKind} {a b : Int} (h : a = b) : Ending.returned (.int k a) = .returned (.int k b) := by rw [h]
theorem hx_below {w : World} (o : Obj) {w1 : World} (h : Below (w.alloc o).heap.size (w.alloc o) w1) : Below w.heap.size w w1 :=
  ((Below.refl _ w).alloc (Nat.le_refl _) o).trans (h.mono (by simp))
theorem i64_nat {j : Nat} (h : j ≤ 140737488355328) : IntKind.i64.wrap (j : Int) = (j : Int) := by rw [IntKind.wrap_i64]; omega
theorem add_block (y : Addr) (k : Nat) : (y.add k).block = y.block := by unfold Addr.add; split <;> rfl

/-- What an element of a row is, as cells. -/
structure El (α : Type) where
  cl : α → List Value
  N : Nat
  pos : 0 < N
  len : ∀ x, (cl x).length = N
  one : ∀ x, ∀ u ∈ cl x, u.oneCell' = true
/-- All cells of a row. -/
def El.cs {α : Type} (E : El α) (xs : List α) : List Value := xs.flatMap E.cl
section
variable {α : Type} {E : El α}
theorem cs_append (xs ys : List α) : E.cs (xs ++ ys) = E.cs xs ++ E.cs ys := by simp [El.cs]
theorem cs_nil : E.cs [] = [] := rfl
theorem cs_one (xs : List α) : ∀ u ∈ E.cs xs, u.oneCell' = true := by
  intro u hu
  obtain ⟨r, _, h⟩ := List.mem_flatMap.1 hu
  exact E.one r u h
theorem cs_length (xs : List α) : (E.cs xs).length = xs.length * E.N := by
  induction xs with
  | nil => simp [El.cs]
  | cons x r ih => rw [El.cs, List.flatMap_cons, List.length_append, ← El.cs, ih, E.len, List.length_cons, Nat.succ_mul]; omega
theorem cs_at (xs : List α) : ∀ (q : Nat) (x : α) (j : Nat), xs[q]? = some x → j < E.N → (E.cs xs)[q * E.N + j]? = (E.cl x)[j]? := by
  induction xs with
  | nil => intro q x j h; simp at h
  | cons y r ih =>
    intro q x j h hj
    rw [El.cs, List.flatMap_cons, ← El.cs]
    cases q with
    | zero =>
      simp at h
      subst h
      rw [List.getElem?_append_left (by rw [E.len]; omega)]
      simp
    | succ q =>
      rw [List.getElem?_append_right (by rw [E.len, Nat.succ_mul]; omega), E.len, show (q + 1) * E.N + j - E.N = q * E.N + j by rw [Nat.succ_mul]; omega]
      exact ih q x j (by simpa using h) hj
/-- The elements that a slice's value has, wherever they lie. -/
def Rw (E : El α) (w : World) (A : Option Addr) (xs : List α) : Prop :=
  xs.length ≤ 140737488355328 ∧ ∀ (q : Nat) (x : α), xs[q]? = some x → ∃ y, A = some y ∧ ∀ j v, (E.cl x)[j]? = some v → w.cell? (y.add (q * E.N + j)) = some v
theorem Rw.nil (w : World) (A : Option Addr) : Rw E w A [] := ⟨by simp, fun q x h => by simp at h⟩
theorem Rw.cells_keep {w w' : World} {A : Option Addr} {xs : List α} (h : Rw E w A xs) (hc : ∀ y a v, A = some y → a.block = y.block → w.cell? a = some v → w'.cell? a = some v) : Rw E w' A xs := by
  refine ⟨h.1, fun q x hq => ?_⟩
  obtain ⟨y, hy, hc'⟩ := h.2 q x hq
  exact ⟨y, hy, fun j v hv => hc y _ v hy (add_block _ _) (hc' j v hv)⟩
theorem Rw.below {w w' : World} {A : Option Addr} {xs : List α} (h : Rw E w A xs) (hb : Below w.heap.size w w') : Rw E w' A xs :=
  h.cells_keep fun _ _ _ _ _ hc => (hb.cell (World.block_lt_of_cell? _ _ hc)).trans hc
theorem Rw.belowB {w w' : World} {A : Option Addr} {xs : List α} {B : Nat} (h : Rw E w A xs) (hb : Below B w w') (hB : ∀ y, A = some y → y.block < B) : Rw E w' A xs :=
  h.cells_keep fun y a v hy ha hc => (hb.cell (by rw [ha]; exact hB y hy)).trans hc
theorem Rw.grown {w w' : World} {A : Option Addr} {xs : List α} {row : Option Nat} (h : Rw E w A xs) (hg : w.grownBy w' row) (hne : ∀ x, A = some x → some x.block ≠ row) : Rw E w' A xs :=
  h.cells_keep fun y a v hy ha hc => hg.cell hc (by rw [ha]; exact hne y hy)
theorem Rw.drewN {w : World} {A : Option Addr} {xs : List α} (h : Rw E w A xs) (n : Nat) : Rw E (w.drewN n) A xs := h.below (bdrewN (Below.refl _ _) n)
theorem rw_some {w : World} {A : Option Addr} {xs : List α} (h : Rw E w A xs) (hn : 0 < xs.length) : ∃ y, A = some y := by
  obtain ⟨y, hy, _⟩ := h.2 0 xs[0] (List.getElem?_eq_getElem hn)
  exact ⟨y, hy⟩
theorem rw_none {w : World} {xs : List α} (h : Rw E w none xs) : xs = [] := by
  rcases Nat.eq_zero_or_pos xs.length with h0 | h0
  · exact List.eq_nil_of_length_eq_zero h0
  · obtain ⟨x, hx⟩ := rw_some h h0
    cases hx
theorem Rw.at {w : World} {y : Addr} {xs : List α} (h : Rw E w (some y) xs) {q : Nat} {x : α} (hq : xs[q]? = some x) : ∀ j v, (E.cl x)[j]? = some v → w.cell? ((y.add (q * E.N)).add j) = some v := by
  obtain ⟨y', hy, hc⟩ := h.2 q x hq
  injection hy with hy
  subst hy
  intro j v hv
  rw [Addr.add_add]
  exact hc j v hv
/-- All cells of the row, one behind the other. -/
theorem Rw.cells {w : World} {y : Addr} {xs : List α} (h : Rw E w (some y) xs) : ∀ j u, (E.cs xs)[j]? = some u → w.cell? (y.add j) = some u := by
  intro j u hu
  have hN := E.pos
  have hj : j < xs.length * E.N := by have := (List.getElem?_eq_some_iff.1 hu).1; rwa [cs_length] at this
  have e : j = j / E.N * E.N + j % E.N := by have := Nat.div_add_mod j E.N; rw [Nat.mul_comm] at this; omega
  have hq : j / E.N < xs.length := (Nat.div_lt_iff_lt_mul hN).2 hj
  have hx := List.getElem?_eq_getElem hq
  obtain ⟨y', hy, hc⟩ := h.2 (j / E.N) _ hx
  injection hy with hy
  subst hy
  rw [e, cs_at xs (j / E.N) _ (j % E.N) hx (Nat.mod_lt _ hN)] at hu
  rw [e]
  exact hc _ _ hu
/-- A part of the row. -/
theorem Rw.take {w : World} {A : Option Addr} {xs : List α} (h : Rw E w A xs) (n : Nat) : Rw E w A (xs.take n) := by
  refine ⟨by have := h.1; rw [List.length_take]; omega, fun q x hq => h.2 q x ?_⟩
  rw [List.getElem?_take] at hq
  split at hq
  · exact hq
  · cases hq
theorem Rw.drop {w : World} {y : Addr} {xs : List α} (h : Rw E w (some y) xs) (n : Nat) : Rw E w (some (y.add (n * E.N))) (xs.drop n) := by
  refine ⟨by have := h.1; rw [List.length_drop]; omega, fun q x hq => ?_⟩
  rw [List.getElem?_drop] at hq
  obtain ⟨y', hy, hc⟩ := h.2 (n + q) x hq
  injection hy with hy
  subst hy
  refine ⟨_, rfl, fun j v hv => ?_⟩
  rw [Addr.add_add, show n * E.N + (q * E.N + j) = (n + q) * E.N + j by rw [Nat.add_mul]; omega]
  exact hc j v hv
/-- Where the rest of a row lies. -/
def dA (N : Nat) (A : Option Addr) (c k : Nat) : Option Addr := if c = k then A else A.map (·.add (k * N))
theorem Rw.rest {w : World} {A : Option Addr} {xs : List α} (h : Rw E w A xs) {c : Nat} (hc : xs.length ≤ c) (k : Nat) : Rw E w (dA E.N A c k) (xs.drop k) := by
  unfold dA
  split
  · rename_i e
    rw [List.drop_eq_nil_of_le (by omega)]
    exact Rw.nil _ _
  · cases A with
    | none =>
      rw [rw_none h, List.drop_nil]
      exact Rw.nil _ _
    | some y => exact h.drop k
/-- A row of the call's own reads so. -/
theorem own_rw {w : World} {base : Nat} {e : TypeId} {v : Value} {n : Nat} {xs : List α} (h : w.ownsRow base e E.N v n (E.cs xs)) (hn : xs.length ≤ 140737488355328) : ∃ A cap, v = .slice A xs.length cap ∧ xs.length ≤ cap ∧ cap ≤ maxLen ∧ n = xs.length ∧ Rw E w A xs ∧ (∀ y, A = some y → base ≤ y.block ∧ y.block < w.heap.size) := by
  have hl := h.1
  rw [cs_length] at hl
  have hnx : n = xs.length := (Nat.eq_of_mul_eq_mul_right E.pos hl).symm
  subst hnx
  rcases h.2 with ⟨rfl, h0⟩ | ⟨g, cap, cur, rfl, hb, hg, hle, hm, hs, ht⟩
  · have : xs = [] := List.eq_nil_of_length_eq_zero h0
    subst this
    exact ⟨none, 0, rfl, by simp, by unfold maxLen; omega, rfl, Rw.nil _ _, fun y e => by cases e⟩
  · refine ⟨some ⟨g, 0, none⟩, cap, rfl, hle, hm, rfl, ⟨hn, fun q x hq => ⟨_, rfl, fun j v hv => ?_⟩⟩, fun y e => by injection e with e; subst e; exact ⟨hb, (Array.getElem?_eq_some_iff.1 hg).1⟩⟩
    have hj : j < E.N := by have := (List.getElem?_eq_some_iff.1 hv).1; rwa [E.len] at this
    refine h.cells (g := g) rfl _ _ ?_
    rw [cs_at xs q x j hq hj]
    exact hv
theorem own_keep {w w' : World} {base : Nat} {e : TypeId} {size : Nat} {v : Value} {n : Nat} {xs : List Value} (h : w.ownsRow base e size v n xs) (hb : Below w.heap.size w w') : w'.ownsRow base e size v n xs := by
  refine ⟨h.1, h.2.imp id ?_⟩
  rintro ⟨g, cap, cur, e1, e2, e3, r⟩
  refine ⟨g, cap, cur, e1, e2, ?_, r⟩
  rw [hb.block g (Array.getElem?_eq_some_iff.1 e3).1]
  exact e3
theorem own_base {w : World} {base B : Nat} {e : TypeId} {size : Nat} {v : Value} {n : Nat} {xs : List Value} (h : w.ownsRow base e size v n xs) (hb : B ≤ base) : w.ownsRow B e size v n xs := by
  refine ⟨h.1, h.2.imp id ?_⟩
  rintro ⟨g, cap, cur, e1, e2, e3, r⟩
  exact ⟨g, cap, cur, e1, Nat.le_trans hb e2, e3, r⟩
end

section
variable {ops : Array Oper} {rest : List Oper} {o : Oper} {a : Act} {C : World → Prop} {Q : Act → Prop}
end

section
variable {ops : Array Oper} {rest : List Oper} {o : Oper} {a : Act} {C : World → Prop} {Q : Act → Prop}
end

section
variable {ops : Array Oper} {rest : List Oper} {o : Oper} {a : Act} {C : World → Prop} {Q : Act → Prop}
end
section
variable {ops : Array Oper} {rest : List Oper} {o : Oper} {a : Act} {w : World} {Q : Exit → Act → World → Prop}
theorem wpList_want (hw : Region.wanted o (yielded ops a.tmps) = true) (h : ∀ K : Act → World → Prop, (∀ a w, wpList Tryz.prog ops Q rest a w → K a w) → o.wp Tryz.prog a w K Q) : wpList Tryz.prog ops Q (o :: rest) a w :=
  wpList_step fun K hK => by rw [if_pos hw]; exact h K hK
end
end Go.Proofs.YtilneflfeegnfaaGreat

/-
  Appends to rows of cases; the contracts of slices.Clone, slices.Grow and slices.Concat at cases. Conditions: of up to 1000000 elements in all, which lie in memory.
-/
set_option linter.unusedSimpArgs false
set_option linter.unusedVariables false
namespace Go.Proofs.YtilneflfeegnfaaGreat
open Go.RowKit

/-- How the program lays out a row's elements. -/
structure Ty {α : Type} (E : El α) (S T : TypeId) : Prop where
  sl : Tryz.prog.underlying S = some (.slice T)
  info : ∃ i z b, Tryz.prog.info? T = some i ∧ i.zero = some z ∧ i.size = E.N ∧ i.bytes = b ∧ z.cells.size = E.N ∧ b ≤ 100
theorem info_parts {t : TypeId} {z : Value} {n b : Nat} (h : (Tryz.prog.info? t).map (fun i => (i.zero, i.size, i.bytes)) = some (some z, n, b)) : ∃ i, Tryz.prog.info? t = some i ∧ i.zero = some z ∧ i.size = n ∧ i.bytes = b := by
  obtain ⟨i, hi, he⟩ := Option.map_eq_some_iff.1 h
  simp only [Prod.mk.injEq] at he
  exact ⟨i, hi, he.1, he.2.1, he.2.2⟩
section
variable {α : Type} {E : El α} {S T : TypeId} (D : Ty E S T)
include D
/-- Nothing appended: nothing done. -/
theorem run_append_no (w : World) (base : Nat) (ty : TypeId) (v : Value) (n c : Nat) (xs : List Value) (hown : w.ownsRow base T E.N v n xs) : (Builtin.append_ #[S, S] ty #[v, .slice none 0 c]).run Tryz.prog w = .ok v w := by
  obtain ⟨i, z, b, hi, _⟩ := D.info
  rcases hown.2 with ⟨rfl, rfl⟩ | ⟨g, cap, cur, rfl, _, _, hle, _⟩
  · simp [Builtin.append_, run_underlying D.sl, Go.sizeOf, typeInfo, hi, Builtin.lenOf, Builtin.firstCells]
  · simp [Builtin.append_, run_underlying D.sl, Go.sizeOf, typeInfo, hi, Builtin.lenOf, Builtin.firstCells, hle, storeCells]
/-- A row appended to one of the call's own. -/
theorem run_append_rw (w : World) (base : Nat) (ty : TypeId) (v : Value) (n : Nat) (xs : List α) (hown : w.ownsRow base T E.N v n (E.cs xs)) (A : Option Addr) (m c : Nat) (ys : List α) (hm : m = ys.length) (hr : Rw E w A ys)
    (hlen : n + m ≤ 1000000000000) (hbase : base ≤ w.heap.size) :
    ∃ v' w', (Builtin.append_ #[S, S] ty #[v, .slice A m c]).run Tryz.prog w = .ok v' w' ∧ w'.ownsRow base T E.N v' (n + m) (E.cs (xs ++ ys)) ∧ w.grownBy w' v.ownBlock := by
  subst hm
  rw [cs_append]
  rcases A with _ | x
  · obtain rfl := rw_none hr
    refine ⟨v, w, run_append_no D w base ty v n c _ hown, ?_, ⟨rfl, rfl, rfl, Nat.le_refl _, fun _ _ _ => rfl⟩⟩
    simpa [El.cs] using hown
  · obtain ⟨i, z, b, hi, hz0, hz1, hz2, hz3, hb⟩ := D.info
    obtain ⟨v', w', hrun, h2, h3, _, h5⟩ := run_append_own_at (P := Tryz.prog) w base S ty T i z E.N b D.sl hi hz0 hz1 hz2 hz3 E.pos v n (E.cs xs) hown x ys.length c (E.cs ys) (by rw [cs_length]) hr.cells (cs_one ys) (by unfold maxLen; omega)
      (Nat.le_trans (Nat.mul_le_mul hlen hb) (by omega)) hbase
    exact ⟨v', w', hrun, h2, h3⟩
/-- The same, and where the new row lies. -/
theorem run_append_rw2 (w : World) (base : Nat) (ty : TypeId) (v : Value) (n : Nat) (xs : List α) (hown : w.ownsRow base T E.N v n (E.cs xs)) (A : Option Addr) (m c : Nat) (ys : List α) (hm : m = ys.length) (hr : Rw E w A ys)
    (hlen : n + m ≤ 1000000000000) (hbase : base ≤ w.heap.size) :
    ∃ v' w', (Builtin.append_ #[S, S] ty #[v, .slice A m c]).run Tryz.prog w = .ok v' w' ∧ w'.ownsRow base T E.N v' (n + m) (E.cs (xs ++ ys)) ∧ w.grownBy w' v.ownBlock ∧ (v'.ownBlock = v.ownBlock ∨ v'.ownBlock = some w.heap.size) := by
  subst hm
  rw [cs_append]
  rcases A with _ | x
  · obtain rfl := rw_none hr
    refine ⟨v, w, run_append_no D w base ty v n c _ hown, ?_, ⟨rfl, rfl, rfl, Nat.le_refl _, fun _ _ _ => rfl⟩, .inl rfl⟩
    simpa [El.cs] using hown
  · obtain ⟨i, z, b, hi, hz0, hz1, hz2, hz3, hb⟩ := D.info
    obtain ⟨v', w', hrun, h2, h3, _, h5⟩ := run_append_own_at (P := Tryz.prog) w base S ty T i z E.N b D.sl hi hz0 hz1 hz2 hz3 E.pos v n (E.cs xs) hown x ys.length c (E.cs ys) (by rw [cs_length]) hr.cells (cs_one ys) (by unfold maxLen; omega)
      (Nat.le_trans (Nat.mul_le_mul hlen hb) (by omega)) hbase
    exact ⟨v', w', hrun, h2, h3, h5⟩
theorem wpList_append_rw2 (w : World) {ops : Array Oper} {rest : List Oper} {o : Oper} {a : Act} {Q : Exit → Act → World → Prop} (hgd : o.guard = none) (s x : Operand) (ho : o.op = .call { callee := .builtin .append, args := #[s, x], argTypes := #[S, S] })
    (base : Nat) (v : Value) (n : Nat) (xs : List α) (hs : a.eval s = v) (hown : w.ownsRow base T E.N v n (E.cs xs)) (A : Option Addr) (m c : Nat) (ys : List α) (hx : a.eval x = .slice A m c) (hm : m = ys.length) (hr : Rw E w A ys)
    (hlen : n + m ≤ 1000000000000) (hbase : base ≤ w.heap.size)
    (h : ∀ v' w', w'.ownsRow base T E.N v' (n + m) (E.cs (xs ++ ys)) → w.grownBy w' v.ownBlock → (v'.ownBlock = v.ownBlock ∨ v'.ownBlock = some w.heap.size) → wpList Tryz.prog ops Q rest (a.put o.dst v') w') : wpList Tryz.prog ops Q (o :: rest) a w :=
  wpList_plain hgd fun _ hK => by
    obtain ⟨v', w', hrun, h2, h3, h4⟩ := run_append_rw2 D w base o.type v n xs hown A m c ys hm hr hlen hbase
    unfold Oper.wp execOp
    simp only [ho, resolve, invoke, builtin, Sem.run_bind, Sem.run_pure, Result.andThen_ok, List.map_toArray, List.map_cons, List.map_nil, hs, hx, hrun]
    exact hK _ _ (h v' w' h2 h3 h4)
/-- Room for some elements, where there was none. -/
theorem run_zeros (h3 : Tryz.prog.underlying 3 = some (.int .i64)) (w : World) (n : Nat) (ty : TypeId) (h0 : 0 < n) (hn : n ≤ 1000000) : ∃ C cap, n ≤ cap ∧ cap ≤ maxLen ∧ C.size = cap * E.N ∧ (Builtin.append_ #[S, 3] ty #[.slice none 0 0, .int .i64 (n : Int)]).run Tryz.prog w =
    .ok (.slice (some ⟨w.heap.size, 0, none⟩) n cap) (w.drew.alloc (.cells C T)) := by
  obtain ⟨i, z, b, hi, hz0, hz1, hz2, hz3, hb⟩ := D.info
  subst hz2
  have hne : n ≠ 0 := by omega
  have hw : IntKind.i64.wrap (n : Int) = n := by rw [IntKind.wrap_i64]; omega
  have h1 : ¬ ((n : Int) < 0) := by omega
  have hnb : n * i.bytes ≤ 1000000 * 100 := Nat.mul_le_mul hn hb
  have h2 : ¬ (281474976710656 < (n : Int) * (i.bytes : Int)) := by
    have : ((n * i.bytes : Nat) : Int) = (n : Int) * (i.bytes : Int) := Int.natCast_mul _ _
    omega
  have h63' : ¬ (9223372036854775807 < (n : Int)) := by omega
  have h48' : ¬ (281474976710656 < Builtin.nextslicecap n 0 * i.bytes) := by rw [nextslicecap_zero h0]; omega
  have h48 : ¬ (281474976710656 < ((Builtin.nextslicecap n 0 : Nat) : Int) * (i.bytes : Int)) := by rw [nextslicecap_zero h0]; exact h2
  refine ⟨Builtin.zeroCells z.cells n ++ Builtin.zeroCells z.cells (grownCap w n 0 T - n), grownCap w n 0 T, grownCap_ge w n 0 T, grownCap_le_maxLen w n 0 T (by unfold maxLen; omega), ?_, ?_⟩
  · have hge := grownCap_ge w n 0 T
    rw [Array.size_append, size_zeroCells, size_zeroCells, hz3, ← Nat.add_mul, show n + (grownCap w n 0 T - n) = grownCap w n 0 T by omega]
  · simp [Builtin.append_, run_underlying D.sl, run_underlying h3, Go.sizeOf, typeInfo, zeroValue, hi, hz0, hz1, hne, hw, h1, h2, h63', h48, h48', Question.forced, run_firstCells_none, newRow, grownCap, asInt, asIntOf]
    intro h
    exact absurd h (Nat.ne_of_gt (Nat.mul_pos h0 E.pos))
theorem wpList_zeros (h3 : Tryz.prog.underlying 3 = some (.int .i64)) (w : World) {ops : Array Oper} {rest : List Oper} {o : Oper} {a : Act} {Q : Exit → Act → World → Prop} (hgd : o.guard = none) (s x : Operand) (ho : o.op = .call { callee := .builtin .append, args := #[s, x], argTypes := #[S, 3] })
    (n : Nat) (hs : a.eval s = .slice none 0 0) (hx : a.eval x = .int .i64 (n : Int)) (h0 : 0 < n) (hn : n ≤ 1000000)
    (h : ∀ C cap, n ≤ cap → cap ≤ maxLen → C.size = cap * E.N → wpList Tryz.prog ops Q rest (a.put o.dst (.slice (some ⟨w.heap.size, 0, none⟩) n cap)) (w.drew.alloc (.cells C T))) : wpList Tryz.prog ops Q (o :: rest) a w :=
  wpList_plain hgd fun _ hK => by
    obtain ⟨C, cap, hge, hle, hsz, hr⟩ := run_zeros D h3 w n o.type h0 hn
    unfold Oper.wp execOp
    simp only [ho, resolve, invoke, builtin, Sem.run_bind, Sem.run_pure, Result.andThen_ok, List.map_toArray, List.map_cons, List.map_nil, hs, hx, hr]
    exact hK _ _ (h _ _ hge hle hsz)
end

/-- A row of the call's own, of whatever capacity. -/
def OwnPost {α : Type} (E : El α) (T : TypeId) (w : World) (xs : List α) (e : Ending) (w' : World) : Prop := ∃ v, e = .returned v ∧ w'.ownsRow w.heap.size T E.N v xs.length (E.cs xs) ∧ Below w.heap.size w w'

/-- A part of what is put together. -/
structure Pt (α : Type) where
  A : Option Addr
  xs : List α
  c : Nat
/-- The parts as they lie in memory. -/
def Pm {α : Type} (E : El α) (w : World) (b : Nat) (ps : List (Pt α)) : Prop := b < w.heap.size ∧ ∀ (k : Nat) (p : Pt α), ps[k]? = some p → w.cell? ⟨b, k, none⟩ = some (.slice p.A p.xs.length p.c) ∧ Rw E w p.A p.xs
def cat {α : Type} (ps : List (Pt α)) (k : Nat) : List α := (ps.take k).flatMap (·.xs)
theorem cat_zero {α : Type} (ps : List (Pt α)) : cat ps 0 = [] := by simp [cat]
theorem cat_snoc {α : Type} {ps : List (Pt α)} {k : Nat} {p : Pt α} (h : ps[k]? = some p) : cat ps (k + 1) = cat ps k ++ p.xs := by
  unfold cat
  rw [List.take_add_one, h]
  simp
theorem cat_le {α : Type} (ps : List (Pt α)) (k : Nat) : (cat ps k).length ≤ (cat ps ps.length).length := by
  unfold cat
  rw [List.take_length]
  have : ps = ps.take k ++ ps.drop k := (List.take_append_drop k ps).symm
  conv => rhs; rw [this]
  rw [List.flatMap_append, List.length_append]
  omega

end Go.Proofs.YtilneflfeegnfaaGreat

/-
  A region that draws its order, by what holds of each operation once it has come up, whatever comes between: each operation is looked at once. No condition of the program's.
-/
namespace Go.Proofs.YtilneflfeegnfaaGreat
open Go
section
variable {P : Program} {ops : Array Oper} {Q : Exit → Act → World → Prop}

theorem count_step {ls : Array Bool} {i : Nat} (h : ls.getD i true = false) : (ls.setIfInBounds i true).toList.countP (· == false) + 1 = ls.toList.countP (· == false) := by
  obtain ⟨l⟩ := ls
  have hi : i < l.length := by
    rcases Nat.lt_or_ge i l.length with h' | h'
    · exact h'
    · simp [h'] at h
  have hv : l[i] = false := by simpa [hi] using h
  simp only [List.setIfInBounds_toArray]
  have := List.countP_set (p := (· == false)) (a := true) hi
  rw [this, if_pos (by rw [hv]; rfl), if_neg (by simp)]
  have hp : 0 < l.countP (· == false) := List.countP_pos_iff.2 ⟨false, by rw [← hv]; exact List.getElem_mem hi, rfl⟩
  omega
theorem ready_none {ls : Array Bool} (_hs : ls.size = ops.size) (h : ls.toList.countP (· == false) = 0) : Region.ready .any ops ls = [] := by
  rw [List.eq_nil_iff_forall_not_mem]
  intro i hi
  have h1 := (mem_ready.1 hi).1
  rw [List.countP_eq_zero] at h
  rcases Nat.lt_or_ge i ls.size with h' | h'
  · have h2 : ls[i] = false := by simpa [h'] using h1
    exact h false (by rw [← h2]; simp) rfl
  · simp [h'] at h1
theorem wpAny_inv (I : Array Bool → Act → World → Prop) (hsz : ∀ ls a w, I ls a w → ls.size = ops.size) (hstep : ∀ ls a w i, I ls a w → i ∈ Region.ready .any ops ls → wpOp P ops Q i (I (ls.setIfInBounds i true)) a w)
    (hend : ∀ ls a w, I ls a w → Region.ready .any ops ls = [] → Q .normal a w) (n : Nat) : ∀ ls a w, ls.toList.countP (· == false) = n → I ls a w → wpAny P .any ops Q n ls a w := by
  induction n with
  | zero => intro ls a w hn h; exact ⟨ready_none (hsz _ _ _ h) hn, hend _ _ _ h (ready_none (hsz _ _ _ h) hn)⟩
  | succ n ih =>
    intro ls a w hn h
    refine ⟨fun hr => hend _ _ _ h hr, fun i hi => ?_⟩
    have hc := count_step (mem_ready.1 hi).1
    exact wpOp_mono (fun a' w' h' => ih _ a' w' (by omega) h') (hstep _ _ _ _ h hi)

/-- One operation: what it waits for has come up, and holds; then it runs, what it leaves holds of it, and the world goes on as it may. -/
def OgStep (P : Program) (ops : Array Oper) (Q : Exit → Act → World → Prop) (mk : (Nat → Value) → Act) (S : World → Prop) (G : World → World → Prop) (F : Nat → Value → World → Prop) (i : Nat) (o : Oper) : Prop :=
  ∀ (u : Nat → Value) (w : World), S w → (∀ e ∈ o.after, Region.binds .any e = true → F e.on (u e.on) w) →
    if Region.wanted o (yielded ops (mk u).tmps) then o.wp P (mk u) w (fun a' w' => ∃ v, a' = (mk u).put o.dst v ∧ F i v w' ∧ S w' ∧ G w w') Q else F i undef w
def OgSteps (P : Program) (ops : Array Oper) (Q : Exit → Act → World → Prop) (mk : (Nat → Value) → Act) (S : World → Prop) (G : World → World → Prop) (F : Nat → Value → World → Prop) : Nat → List Oper → Prop
  | _, [] => True
  | k, o :: l => OgStep P ops Q mk S G F k o ∧ OgSteps P ops Q mk S G F (k + 1) l
theorem OgSteps.nil {mk : (Nat → Value) → Act} {S : World → Prop} {G : World → World → Prop} {F : Nat → Value → World → Prop} {k : Nat} : OgSteps P ops Q mk S G F k [] := trivial
theorem OgSteps.cons {mk : (Nat → Value) → Act} {S : World → Prop} {G : World → World → Prop} {F : Nat → Value → World → Prop} {k : Nat} {o : Oper} {l : List Oper} (h : OgStep P ops Q mk S G F k o) (g : OgSteps P ops Q mk S G F (k + 1) l) : OgSteps P ops Q mk S G F k (o :: l) := ⟨h, g⟩
theorem OgSteps.at {mk : (Nat → Value) → Act} {S : World → Prop} {G : World → World → Prop} {F : Nat → Value → World → Prop} : ∀ {l : List Oper} {k : Nat}, OgSteps P ops Q mk S G F k l → ∀ {i : Nat} {o : Oper}, l[i]? = some o → OgStep P ops Q mk S G F (k + i) o
  | o :: l, k, h, 0, o', ho => by
    have : o = o' := by simpa using ho
    subst this
    exact h.1
  | o :: l, k, h, i + 1, o', ho => by
    have := OgSteps.at h.2 (i := i) (o := o') (by simpa using ho)
    rwa [show k + 1 + i = k + (i + 1) by omega] at this
  | [], _, _, _, _, ho => by simp at ho
/-- Each operation's slot is its own. -/
def OgPut (mk : (Nat → Value) → Act) : Nat → List Oper → Prop
  | _, [] => True
  | k, o :: l => (∀ u v, (mk u).put o.dst v = mk (fun j => if j = k then v else u j)) ∧ OgPut mk (k + 1) l
theorem OgPut.at {mk : (Nat → Value) → Act} : ∀ {l : List Oper} {k : Nat}, OgPut mk k l → ∀ {i : Nat} {o : Oper}, l[i]? = some o → ∀ u v, (mk u).put o.dst v = mk (fun j => if j = k + i then v else u j)
  | o :: l, k, h, 0, o', ho => by
    have : o = o' := by simpa using ho
    subst this
    exact h.1
  | o :: l, k, h, i + 1, o', ho => by
    have := OgPut.at h.2 (i := i) (o := o') (by simpa using ho)
    rwa [show k + 1 + i = k + (i + 1) by omega] at this
  | [], _, _, _, _, ho => by simp at ho

theorem getD_set_self {ls : Array Bool} {i : Nat} (h : i < ls.size) : (ls.setIfInBounds i true).getD i false = true := by simp [h]

/-- The whole region. -/
theorem wp_region_og {id : Nat} {a : Act} {w : World} {l : List Oper} (mk : (Nat → Value) → Act) (S : World → Prop) (G : World → World → Prop) (F : Nat → Value → World → Prop) (hm : P.follows .mixedOrders = true)
    (u0 : Nat → Value) (ha : a = mk u0) (hS : S w.drew) (hput : OgPut mk 0 l) (hG : ∀ i v w w', F i v w → S w → G w w' → F i v w')
    (hacyc : (List.range l.length).all (fun i => (l[i]?).all fun o => o.after.all fun e => !Region.binds .any e || decide (e.on < i)) = true)
    (hstep : OgSteps P l.toArray Q mk S G F 0 l) (hend : ∀ u w, S w → (∀ i, i < l.length → F i (u i) w) → Q .normal (mk u) w) : (Code.region id l.toArray true).wp P Q a w := by
  subst ha
  refine wp_region_any hm ?_
  have hsz : l.toArray.size = (Array.replicate l.toArray.size false).toList.countP (· == false) := by simp [List.countP_replicate]
  conv => arg 5; rw [hsz]
  refine wpAny_inv (ops := l.toArray) (fun ls a w => ls.size = l.toArray.size ∧ S w ∧ ∃ u, a = mk u ∧ ∀ i, ls.getD i false = true → F i (u i) w) (fun _ _ _ h => h.1) ?_ ?_ _ _ _ _ rfl ⟨by simp, hS, u0, rfl, fun i hi => ?_⟩
  · rintro ls a w i ⟨hl, hs, u, rfl, hF⟩ hi
    obtain ⟨hun, o, ho, hall⟩ := mem_ready.1 hi
    have ho' : l[i]? = some o := by simpa using ho
    have hil : i < ls.size := by
      rcases Nat.lt_or_ge i ls.size with h' | h'
      · exact h'
      · simp [h'] at hun
    have st := hstep.at ho' u w hs (fun e he hb => hF _ (hall e he hb))
    rw [Nat.zero_add] at st
    have pt := hput.at ho'
    rw [Nat.zero_add] at pt
    unfold wpOp
    simp only [ho]
    split
    · rename_i hw
      rw [if_pos hw] at st
      refine .inl (Oper.wp_mono ?_ st)
      rintro a' w' ⟨v, rfl, hv, hs', hg⟩
      refine ⟨by simpa using hl, hs', _, pt u v, fun j hj => ?_⟩
      by_cases hji : j = i
      · subst hji; simpa using hv
      · rw [getD_set_ne false (Ne.symm hji)] at hj
        simp only [hji, if_false]
        exact hG _ _ _ _ (hF j hj) hs hg
    · rename_i hw
      rw [if_neg hw] at st
      refine ⟨by simpa using hl, hs, _, pt u undef, fun j hj => ?_⟩
      by_cases hji : j = i
      · subst hji; simpa using st
      · rw [getD_set_ne false (Ne.symm hji)] at hj
        simp only [hji, if_false]
        exact hF j hj
  · rintro ls a w ⟨hl, hs, u, rfl, hF⟩ hr
    refine hend u w hs fun i hi => hF i ?_
    have key : ∀ n i, i < n → i < l.length → ls.getD i false = true := by
      intro n
      induction n with
      | zero => intro i h; omega
      | succ n ih =>
        intro i hin hil
        cases hc : ls.getD i true with
        | true =>
          have : i < ls.size := by rw [hl]; simpa using hil
          simpa [this] using hc
        | false =>
          exfalso
          have hmem : i ∈ Region.ready .any l.toArray ls := by
            refine mem_ready.2 ⟨hc, l[i], by simp [hil], fun e he hb => ?_⟩
            have h1 := List.all_eq_true.1 hacyc i (List.mem_range.2 hil)
            rw [List.getElem?_eq_getElem hil] at h1
            simp only [Option.all_some] at h1
            have h2 := Array.all_eq_true_iff_forall_mem.1 h1 e he
            simp only [hb, Bool.not_true, Bool.false_or, decide_eq_true_eq] at h2
            exact ih e.on (by omega) (by omega)
          rw [hr] at hmem
          cases hmem
    exact key (i + 1) i (by omega) hi
  · exfalso
    rcases Nat.lt_or_ge i l.length with h' | h' <;> simp [h'] at hi

/-- A frame in which the operations' slots have these values. -/
def ogMk : Nat → List Oper → (Nat → Value) → Act → Act
  | _, [], _, a => a
  | k, o :: l, u, a => ogMk (k + 1) l u (a.put o.dst (u k))
/-- No two operations write one slot. -/
def ogApart : List Oper → Bool
  | [] => true
  | o :: l => l.all (fun o' => o.dst.isNone || o.dst != o'.dst) && ogApart l
theorem put_put (a : Act) (d : Option Tmp) (x y : Value) : (a.put d x).put d y = a.put d y := by
  cases d with
  | none => rfl
  | some d => simp [Act.put]
theorem put_other (a : Act) {d e : Option Tmp} (h : d = none ∨ d ≠ e) (x y : Value) : (a.put e x).put d y = (a.put d y).put e x := by
  cases d with
  | none => rfl
  | some d =>
    cases e with
    | none => rfl
    | some e =>
      have hne : d ≠ e := fun q => h.elim (fun q => by cases q) (fun q' => q' (by rw [q]))
      simp [Act.put, Array.setIfInBounds_comm _ _ hne]
theorem ogMk_other {d : Option Tmp} {v : Value} {u : Nat → Value} : ∀ (l : List Oper) (k : Nat) (a : Act), l.all (fun o' => d.isNone || d != o'.dst) = true → (ogMk k l u a).put d v = ogMk k l u (a.put d v)
  | [], _, _, _ => rfl
  | o :: l, k, a, h => by
    simp only [List.all_cons, Bool.and_eq_true] at h
    rw [ogMk, ogMk, ogMk_other l (k + 1) _ h.2, put_other a]
    have h1 := h.1
    simp only [Bool.or_eq_true, Option.isNone_iff_eq_none, bne_iff_ne] at h1
    exact h1
theorem ogMk_same {u u' : Nat → Value} : ∀ (l : List Oper) (k : Nat) (a : Act), (∀ j, k ≤ j → u j = u' j) → ogMk k l u a = ogMk k l u' a
  | [], _, _, _ => rfl
  | o :: l, k, a, h => by rw [ogMk, ogMk, h k (Nat.le_refl _)]; exact ogMk_same l (k + 1) _ fun j hj => h j (by omega)
theorem ogMk_put {u : Nat → Value} {v : Value} : ∀ (l : List Oper) (k i : Nat) (o : Oper) (a : Act), ogApart l = true → l[i]? = some o → (ogMk k l u a).put o.dst v = ogMk k l (fun j => if j = k + i then v else u j) a
  | [], _, _, _, _, _, ho => by simp at ho
  | o' :: l, k, 0, o, a, h, ho => by
    have : o' = o := by simpa using ho
    subst this
    simp only [ogApart, Bool.and_eq_true] at h
    rw [ogMk, ogMk_other l (k + 1) _ h.1, put_put, ogMk, ogMk_same l (k + 1) _ (u := u) (u' := fun j => if j = k + 0 then v else u j) fun j hj => by rw [if_neg (by omega)]]
    simp
  | o' :: l, k, i + 1, o, a, h, ho => by
    simp only [ogApart, Bool.and_eq_true] at h
    have := ogMk_put (u := u) (v := v) l (k + 1) i o (a.put o'.dst (u k)) h.2 (by simpa using ho)
    rw [ogMk, this, ogMk]
    simp only [show k + 1 + i = k + (i + 1) by omega, show (k = k + (i + 1)) = False by simp, if_false]
theorem put_own (a : Act) (d : Option Tmp) : ∃ v, a.put d v = a := by
  cases d with
  | none => exact ⟨undef, rfl⟩
  | some d =>
    refine ⟨a.tmps.getD d undef, ?_⟩
    obtain ⟨t, ds⟩ := a
    simp only [Act.put, Act.mk.injEq, and_true]
    apply Array.ext_getElem?
    intro j
    rw [Array.getElem?_setIfInBounds]
    split
    · rename_i e
      subst e
      rcases Nat.lt_or_ge d t.size with h | h
      · simp [h]
      · simp [Nat.not_lt.2 h]
    · rfl
theorem ogMk_own : ∀ (l : List Oper) (k : Nat) (a : Act), ∃ u, ogMk k l u a = a
  | [], _, _ => ⟨fun _ => undef, rfl⟩
  | o :: l, k, a => by
    obtain ⟨v, hv⟩ := put_own a o.dst
    obtain ⟨u, hu⟩ := ogMk_own l (k + 1) a
    refine ⟨fun j => if j = k then v else u j, ?_⟩
    rw [ogMk, if_pos rfl, hv, ogMk_same l (k + 1) a (u' := u) fun j hj => by rw [if_neg (by omega)]]
    exact hu
theorem ogPut_mk (a : Act) (L : List Oper) (hL : ogApart L = true) : ∀ (l : List Oper) (k : Nat), (∀ i o, l[i]? = some o → L[k + i]? = some o) → OgPut (fun u => ogMk 0 L u a) k l
  | [], _, _ => trivial
  | o :: l, k, h => by
    refine ⟨fun u v => ?_, ogPut_mk a L hL l (k + 1) fun i o' ho => ?_⟩
    · have := ogMk_put (u := u) (v := v) L 0 k o a hL (by simpa using h 0 o rfl)
      rw [Nat.zero_add] at this
      exact this
    · have := h (i + 1) o' (by simpa using ho)
      rwa [show k + (i + 1) = k + 1 + i by omega] at this
/-- The whole region, over its own frame. -/
theorem wp_region_orders {id : Nat} {a : Act} {w : World} {l : List Oper} (S : World → Prop) (G : World → World → Prop) (F : Nat → Value → World → Prop) (hm : P.follows .mixedOrders = true) (hap : ogApart l = true)
    (hacyc : (List.range l.length).all (fun i => (l[i]?).all fun o => o.after.all fun e => !Region.binds .any e || decide (e.on < i)) = true) (hS : S w.drew) (hG : ∀ i v w w', F i v w → S w → G w w' → F i v w')
    (hstep : OgSteps P l.toArray Q (fun u => ogMk 0 l u a) S G F 0 l) (hend : ∀ u w, S w → (∀ i, i < l.length → F i (u i) w) → Q .normal (ogMk 0 l u a) w) : (Code.region id l.toArray true).wp P Q a w := by
  obtain ⟨u0, hu0⟩ := ogMk_own l 0 a
  exact wp_region_og (fun u => ogMk 0 l u a) S G F hm u0 hu0.symm hS (ogPut_mk a l hap l 0 fun i o ho => by rwa [Nat.zero_add]) hG hacyc hstep hend

/-- An operation that gives a value. -/
theorem og_value {mk : (Nat → Value) → Act} {S : World → Prop} {G : World → World → Prop} {F : Nat → Value → World → Prop} {i : Nat} {o : Oper} {u : Nat → Value} {w w' : World} {v : Value} (hg : o.guard = none)
    (hr : (execOp (mk u).eval o).run P w = .ok (.value v) w') (hF : F i v w') (hS : S w') (hG : G w w') :
    if Region.wanted o (yielded ops (mk u).tmps) then o.wp P (mk u) w (fun a' w' => ∃ v, a' = (mk u).put o.dst v ∧ F i v w' ∧ S w' ∧ G w w') Q else F i undef w := by
  rw [if_pos (by simp [Region.wanted, hg])]
  unfold Oper.wp
  rw [hr]
  exact ⟨v, rfl, hF, hS, hG⟩
/-- An operation that calls. -/
theorem og_call {mk : (Nat → Value) → Act} {S : World → Prop} {G : World → World → Prop} {F : Nat → Value → World → Prop} {i : Nat} {o : Oper} {u : Nat → Value} {w : World} {f : FuncId} {args : Array Value} {R : Value → World → Prop} (hg : o.guard = none)
    (hr : (execOp (mk u).eval o).run P w = .ok (.enter f args) w) (hc : Calls P f args w fun e w' => ∃ v, e = .returned v ∧ R v w') (hF : ∀ v w', R v w' → F i v w' ∧ S w' ∧ G w w') :
    if Region.wanted o (yielded ops (mk u).tmps) then o.wp P (mk u) w (fun a' w' => ∃ v, a' = (mk u).put o.dst v ∧ F i v w' ∧ S w' ∧ G w w') Q else F i undef w := by
  rw [if_pos (by simp [Region.wanted, hg])]
  unfold Oper.wp
  rw [hr]
  refine hc.mono ?_
  rintro e w' ⟨v, rfl, hR⟩
  exact ⟨v, rfl, hF v w' hR⟩
/-- What goes on holding where memory is made. -/
def Stable (φ : Value → World → Prop) : Prop := ∀ v w w', φ v w → RowKit.Below w.heap.size w w' → φ v w'
/-- It is this value. -/
def fx (c : Value) : Value → World → Prop := fun v _ => v = c
theorem stable_fx (c : Value) : Stable (fx c) := fun _ _ _ h _ => h
/-- What is known of operation i. -/
def fAt (Φ : List (Value → World → Prop)) (i : Nat) : Value → World → Prop := Φ.getD i (fun _ _ => True)
theorem stable_at {Φ : List (Value → World → Prop)} (h : ∀ φ ∈ Φ, Stable φ) (i : Nat) : Stable (fAt Φ i) := by
  unfold fAt
  rw [List.getD_eq_getElem?_getD]
  cases hi : Φ[i]? with
  | none => intro _ _ _ _ _; trivial
  | some φ => exact h φ (List.mem_of_getElem? hi)
/-- One operation that gives a value, and may make memory. -/
theorem OgStep.made {mk : (Nat → Value) → Act} {Φ : List (Value → World → Prop)} {i : Nat} {o : Oper} {w0 : World} (hg : o.guard = none)
    (h : ∀ u w, RowKit.Below w0.heap.size w0 w → (∀ e ∈ o.after, Region.binds .any e = true → fAt Φ e.on (u e.on) w) → ∃ v w', (execOp (mk u).eval o).run P w = .ok (.value v) w' ∧ RowKit.Below w.heap.size w w' ∧ fAt Φ i v w') :
    OgStep P ops Q mk (fun w' => RowKit.Below w0.heap.size w0 w') (fun w1 w2 => RowKit.Below w1.heap.size w1 w2) (fAt Φ) i o := by
  intro u w hS hp
  obtain ⟨v, w', hr, hB, hF⟩ := h u w hS hp
  exact og_value hg hr hF (hS.trans (hB.mono hS.size)) hB
/-- One operation that gives a value, and leaves the world. -/
theorem OgStep.pure {mk : (Nat → Value) → Act} {Φ : List (Value → World → Prop)} {i : Nat} {o : Oper} {w0 : World} (hg : o.guard = none)
    (h : ∀ u w, RowKit.Below w0.heap.size w0 w → (∀ e ∈ o.after, Region.binds .any e = true → fAt Φ e.on (u e.on) w) → ∃ v, (execOp (mk u).eval o).run P w = .ok (.value v) w ∧ fAt Φ i v w) :
    OgStep P ops Q mk (fun w' => RowKit.Below w0.heap.size w0 w') (fun w1 w2 => RowKit.Below w1.heap.size w1 w2) (fAt Φ) i o :=
  OgStep.made hg fun u w hS hp => by
    obtain ⟨v, hr, hF⟩ := h u w hS hp
    exact ⟨v, w, hr, RowKit.Below.refl _ _, hF⟩
/-- One operation that calls. -/
theorem OgStep.calls {mk : (Nat → Value) → Act} {Φ : List (Value → World → Prop)} {i : Nat} {o : Oper} {w0 : World} (hg : o.guard = none)
    (h : ∀ u w, RowKit.Below w0.heap.size w0 w → (∀ e ∈ o.after, Region.binds .any e = true → fAt Φ e.on (u e.on) w) →
      ∃ f args, (execOp (mk u).eval o).run P w = .ok (.enter f args) w ∧ Calls P f args w fun e w' => ∃ v, e = .returned v ∧ RowKit.Below w.heap.size w w' ∧ fAt Φ i v w') :
    OgStep P ops Q mk (fun w' => RowKit.Below w0.heap.size w0 w') (fun w1 w2 => RowKit.Below w1.heap.size w1 w2) (fAt Φ) i o := by
  intro u w hS hp
  obtain ⟨f, args, hr, hc⟩ := h u w hS hp
  exact og_call (R := fun v w' => RowKit.Below w.heap.size w w' ∧ fAt Φ i v w') hg hr hc fun v w' h => ⟨h.2, hS.trans (h.1.mono hS.size), h.1⟩
/-- A region that makes memory, and turns nothing that was there, in whatever order. -/
theorem wp_region_below {id : Nat} {a : Act} {w : World} {l : List Oper} (Φ : List (Value → World → Prop)) (hm : P.follows .mixedOrders = true) (hap : ogApart l = true)
    (hacyc : (List.range l.length).all (fun i => (l[i]?).all fun o => o.after.all fun e => !Region.binds .any e || decide (e.on < i)) = true) (hΦ : ∀ φ ∈ Φ, Stable φ)
    (hstep : OgSteps P l.toArray Q (fun u => ogMk 0 l u a) (fun w' => RowKit.Below w.heap.size w w') (fun w1 w2 => RowKit.Below w1.heap.size w1 w2) (fAt Φ) 0 l)
    (hend : ∀ u w', RowKit.Below w.heap.size w w' → (∀ i, i < l.length → fAt Φ i (u i) w') → Q .normal (ogMk 0 l u a) w') : (Code.region id l.toArray true).wp P Q a w :=
  wp_region_orders (fun w' => RowKit.Below w.heap.size w w') (fun w1 w2 => RowKit.Below w1.heap.size w1 w2) (fAt Φ) hm hap hacyc (RowKit.Below.refl _ _).drew (fun i v w1 w2 h _ hg => stable_at hΦ i v w1 w2 h hg) hstep hend
end
end Go.Proofs.YtilneflfeegnfaaGreat

/-
  A region that draws its order and whose last operation waits, through others, for all the rest (p := T{..} with calls inside): by what holds of each operation once it has come up; the last one stands behind them all. No condition of the program's.
-/
namespace Go.Proofs.YtilneflfeegnfaaGreat
open Go
section
variable {P : Program} {Q : Exit → Act → World → Prop}

theorem getD_false {ls : Array Bool} {i : Nat} (h : i < ls.size) (h' : ¬ ls.getD i false = true) : ls.getD i true = false := by
  simp [h] at h' ⊢
  exact h'
theorem getD_true {ls : Array Bool} {i : Nat} (h : ls.getD i false = true) : ls.getD i true = true := by
  rcases Nat.lt_or_ge i ls.size with h' | h'
  · simpa [h'] using h
  · simp [h'] at h

/-- The whole region. -/
theorem wp_region_last {id : Nat} {a : Act} {w : World} {l L : List Oper} {o : Oper} (S : World → Prop) (G : World → World → Prop) (F : Nat → Value → World → Prop) (hm : P.follows .mixedOrders = true) (hL : L = l ++ [o]) (hap : ogApart L = true)
    (hacyc : (List.range L.length).all (fun i => (L[i]?).all fun o => o.after.all fun e => !Region.binds .any e || decide (e.on < i)) = true)
    (hwait : (List.range l.length).all (fun i => (List.range L.length).any fun j => (L[j]?).any fun o => o.after.any fun e => Region.binds .any e && decide (e.on = i)) = true)
    (hS : S w.drew) (hG : ∀ i v w w', F i v w → S w → G w w' → F i v w')
    (hstep : OgSteps P L.toArray Q (fun u => ogMk 0 L u a) S G F 0 l)
    (hend : ∀ u w, S w → (∀ i, i < l.length → F i (u i) w) → wpList P L.toArray Q [o] (ogMk 0 L u a) w) : (Code.region id L.toArray true).wp P Q a w := by
  obtain ⟨u0, hu0⟩ := ogMk_own L 0 a
  have hput := ogPut_mk a L hap L 0 fun i o ho => by rwa [Nat.zero_add]
  have hlen : L.length = l.length + 1 := by rw [hL]; simp
  have hlast : L[l.length]? = some o := by rw [hL]; simp
  have hhead : ∀ i o', i ≠ l.length → L[i]? = some o' → l[i]? = some o' := by
    intro i o' hi ho
    rw [hL] at ho
    have : i < l.length := by
      rcases Nat.lt_or_ge i (l.length + 1) with h | h
      · omega
      · rw [List.getElem?_eq_none (by simp; omega)] at ho; cases ho
    rwa [List.getElem?_append_left this] at ho
  suffices H : ∀ a', a' = ogMk 0 L u0 a → (Code.region id L.toArray true).wp P Q a' w from H a hu0.symm
  rintro _ rfl
  refine wp_region_any hm ?_
  have hsz : L.toArray.size = (Array.replicate L.toArray.size false).toList.countP (· == false) := by simp [List.countP_replicate]
  conv => arg 5; rw [hsz]
  refine wpAny_inv (ops := L.toArray) (fun ls a' w => ls.size = L.toArray.size ∧
      ((ls.getD l.length true = false ∧ S w ∧ (∀ i, ls.getD i false = true → ∀ o', L[i]? = some o' → ∀ e ∈ o'.after, Region.binds .any e = true → ls.getD e.on false = true) ∧ ∃ u, a' = ogMk 0 L u a ∧ ∀ i, ls.getD i false = true → F i (u i) w) ∨
       ((∀ i, i < L.length → ls.getD i true = true) ∧ Q .normal a' w))) (fun _ _ _ h => h.1) ?_ ?_ _ _ _ _ rfl ⟨by simp, .inl ⟨by simp [hlen], hS, fun i hi => ?_, u0, rfl, fun i hi => ?_⟩⟩
  · rintro ls a' w i ⟨hl, h⟩ hi
    obtain ⟨hun, o', ho, hall⟩ := mem_ready.1 hi
    have ho' : L[i]? = some o' := by simpa using ho
    have hil : i < ls.size := by
      rcases Nat.lt_or_ge i ls.size with h' | h'
      · exact h'
      · simp [h'] at hun
    have hiL : i < L.length := by simpa [hl] using hil
    rcases h with ⟨hno, hs, hcl, u, rfl, hF⟩ | ⟨hdone, _⟩
    · by_cases hi' : i = l.length
      · subst hi'
        obtain rfl : o' = o := by rw [hlast] at ho'; exact (Option.some.inj ho').symm
        have key : ∀ n i, l.length ≤ i + n → i < l.length → ls.getD i false = true := by
          intro n
          induction n with
          | zero => intro i h1 h2; omega
          | succ n ih =>
            intro i h1 h2
            have hw := List.all_eq_true.1 hwait i (List.mem_range.2 h2)
            obtain ⟨j, hj, hw⟩ := List.any_eq_true.1 hw
            have hjl := List.mem_range.1 hj
            rw [List.getElem?_eq_getElem hjl, Option.any_some, Array.any_eq_true] at hw
            obtain ⟨k, hk, hw⟩ := hw
            simp only [Bool.and_eq_true, decide_eq_true_eq] at hw
            have hij : i < j := by
              have h3 := List.all_eq_true.1 hacyc j hj
              rw [List.getElem?_eq_getElem hjl, Option.all_some, Array.all_eq_true_iff_forall_mem] at h3
              have h4 := h3 _ (Array.getElem_mem hk)
              simp only [hw.1, Bool.not_true, Bool.false_or, decide_eq_true_eq] at h4
              omega
            rw [← hw.2]
            by_cases hjn : j = l.length
            · subst hjn
              have : L[l.length] = o' := by
                have := List.getElem?_eq_getElem hjl
                rw [hlast] at this
                exact (Option.some.inj this).symm
              exact hall _ (this ▸ Array.getElem_mem hk) hw.1
            · exact hcl j (ih j (by omega) (by omega)) _ (List.getElem?_eq_getElem hjl) _ (Array.getElem_mem hk) hw.1
        have key' : ∀ i, i < l.length → ls.getD i false = true := fun i hi => key l.length i (by omega) hi
        have st := hend u w hs fun i hi => hF i (key' i hi)
        have hset : ∀ i, i < L.length → (ls.setIfInBounds l.length true).getD i true = true := by
          intro j hj
          by_cases hjl : j = l.length
          · subst hjl; exact getD_true (getD_set_self hil)
          · rw [getD_set_ne true (Ne.symm hjl)]; exact getD_true (key' j (by omega))
        unfold wpOp
        simp only [ho]
        unfold wpList at st
        split
        · rename_i hw
          rw [if_pos hw] at st
          rcases st with st | st
          · exact .inl (Oper.wp_mono (fun a'' w'' h => ⟨by simpa using hl, .inr ⟨hset, h⟩⟩) st)
          · exact .inr st
        · rename_i hw
          rw [if_neg hw] at st
          exact ⟨by simpa using hl, .inr ⟨hset, st⟩⟩
      · have st := hstep.at (hhead i o' hi' ho') u w hs (fun e he hb => hF _ (hall e he hb))
        rw [Nat.zero_add] at st
        have pt := hput.at ho'
        rw [Nat.zero_add] at pt
        have hno' : (ls.setIfInBounds i true).getD l.length true = false := by rw [getD_set_ne true hi']; exact hno
        have hcl' : ∀ j, (ls.setIfInBounds i true).getD j false = true → ∀ o', L[j]? = some o' → ∀ e ∈ o'.after, Region.binds .any e = true → (ls.setIfInBounds i true).getD e.on false = true := by
          intro j hj oj hoj e he hb
          have up : ls.getD e.on false = true → (ls.setIfInBounds i true).getD e.on false = true := by
            intro h
            by_cases hei : e.on = i
            · rw [hei]; exact getD_set_self hil
            · rw [getD_set_ne false (Ne.symm hei)]; exact h
          by_cases hji : j = i
          · subst hji
            obtain rfl : oj = o' := by rw [ho'] at hoj; exact (Option.some.inj hoj).symm
            exact up (hall e he hb)
          · rw [getD_set_ne false (Ne.symm hji)] at hj
            exact up (hcl j hj oj hoj e he hb)
        unfold wpOp
        simp only [ho]
        split
        · rename_i hw
          rw [if_pos hw] at st
          refine .inl (Oper.wp_mono ?_ st)
          rintro a' w' ⟨v, rfl, hv, hs', hg⟩
          refine ⟨by simpa using hl, .inl ⟨hno', hs', hcl', _, pt u v, fun j hj => ?_⟩⟩
          by_cases hji : j = i
          · subst hji; simpa using hv
          · rw [getD_set_ne false (Ne.symm hji)] at hj
            simp only [hji, if_false]
            exact hG _ _ _ _ (hF j hj) hs hg
        · rename_i hw
          rw [if_neg hw] at st
          refine ⟨by simpa using hl, .inl ⟨hno', hs, hcl', _, pt u undef, fun j hj => ?_⟩⟩
          by_cases hji : j = i
          · subst hji; simpa using st
          · rw [getD_set_ne false (Ne.symm hji)] at hj
            simp only [hji, if_false]
            exact hF j hj
    · rw [hdone i hiL] at hun
      cases hun
  · rintro ls a' w ⟨hl, ⟨hno, hs, hcl, u, rfl, hF⟩ | ⟨_, h⟩⟩ hr
    · exfalso
      have hl' : ls.size = L.length := by simpa using hl
      have key : ∀ n i, i < n → i < L.length → ls.getD i false = true := by
        intro n
        induction n with
        | zero => intro i h; omega
        | succ n ih =>
          intro i hin hil
          by_cases hc : ls.getD i false = true
          · exact hc
          · exfalso
            have hmem : i ∈ Region.ready .any L.toArray ls := by
              refine mem_ready.2 ⟨getD_false (by omega) hc, L[i], by simp [hil], fun e he hb => ?_⟩
              have h1 := List.all_eq_true.1 hacyc i (List.mem_range.2 hil)
              rw [List.getElem?_eq_getElem hil] at h1
              simp only [Option.all_some] at h1
              have h2 := Array.all_eq_true_iff_forall_mem.1 h1 e he
              simp only [hb, Bool.not_true, Bool.false_or, decide_eq_true_eq] at h2
              exact ih e.on (by omega) (by omega)
            rw [hr] at hmem
            cases hmem
      have := getD_true (key (l.length + 1) l.length (by omega) (by omega))
      rw [hno] at this
      cases this
    · exact h
  · exfalso
    rcases Nat.lt_or_ge i L.length with h' | h' <;> simp [h'] at hi
  · exfalso
    rcases Nat.lt_or_ge i L.length with h' | h' <;> simp [h'] at hi
/-- A region that makes memory, and turns nothing that was there but by its last operation, in whatever order. -/
theorem wp_region_below_last {id : Nat} {a : Act} {w : World} {l L : List Oper} {o : Oper} (Φ : List (Value → World → Prop)) (hm : P.follows .mixedOrders = true) (hL : L = l ++ [o]) (hap : ogApart L = true)
    (hacyc : (List.range L.length).all (fun i => (L[i]?).all fun o => o.after.all fun e => !Region.binds .any e || decide (e.on < i)) = true)
    (hwait : (List.range l.length).all (fun i => (List.range L.length).any fun j => (L[j]?).any fun o => o.after.any fun e => Region.binds .any e && decide (e.on = i)) = true)
    (hΦ : ∀ φ ∈ Φ, Stable φ)
    (hstep : OgSteps P L.toArray Q (fun u => ogMk 0 L u a) (fun w' => RowKit.Below w.heap.size w w') (fun w1 w2 => RowKit.Below w1.heap.size w1 w2) (fAt Φ) 0 l)
    (hend : ∀ u w', RowKit.Below w.heap.size w w' → (∀ i, i < l.length → fAt Φ i (u i) w') → wpList P L.toArray Q [o] (ogMk 0 L u a) w') : (Code.region id L.toArray true).wp P Q a w :=
  wp_region_last (fun w' => RowKit.Below w.heap.size w w') (fun w1 w2 => RowKit.Below w1.heap.size w1 w2) (fAt Φ) hm hL hap hacyc hwait (RowKit.Below.refl _ _).drew (fun i v w1 w2 h _ hg => stable_at hΦ i v w1 w2 h hg) hstep hend
/-- The same, the last operation found by itself. -/
theorem wp_region_below_end {id : Nat} {a : Act} {w : World} {L : List Oper} (hne : L ≠ []) (Φ : List (Value → World → Prop)) (hm : P.follows .mixedOrders = true) (hap : ogApart L = true)
    (hacyc : (List.range L.length).all (fun i => (L[i]?).all fun o => o.after.all fun e => !Region.binds .any e || decide (e.on < i)) = true)
    (hwait : (List.range L.dropLast.length).all (fun i => (List.range L.length).any fun j => (L[j]?).any fun o => o.after.any fun e => Region.binds .any e && decide (e.on = i)) = true)
    (hΦ : ∀ φ ∈ Φ, Stable φ)
    (hstep : OgSteps P L.toArray Q (fun u => ogMk 0 L u a) (fun w' => RowKit.Below w.heap.size w w') (fun w1 w2 => RowKit.Below w1.heap.size w1 w2) (fAt Φ) 0 L.dropLast)
    (hend : ∀ u w', RowKit.Below w.heap.size w w' → (∀ i, i < L.dropLast.length → fAt Φ i (u i) w') → wpList P L.toArray Q [L.getLast hne] (ogMk 0 L u a) w') : (Code.region id L.toArray true).wp P Q a w :=
  wp_region_below_last Φ hm (List.dropLast_concat_getLast hne).symm hap hacyc hwait hΦ hstep hend
end
end Go.Proofs.YtilneflfeegnfaaGreat

/-
  A region that draws its order: its first operations only read, or call what leaves a world of one class; the last ones wait for them, one behind the other. Walked once. No condition of the program's.
-/
namespace Go.Proofs.YtilneflfeegnfaaGreat
open Go Go.Sort
section
variable {P : Program} {ops : Array Oper} {md : Region.Mode} {C : World → Prop}

/-- Whatever order is drawn for the first n operations, each of them quiet in the class; then L. -/
def anyHead (P : Program) (md : Region.Mode) (ops : Array Oper) (C : World → Prop) (n : Nat) (L : Array Bool → Act → Prop) : Nat → Array Bool → Act → Prop
  | 0, ls, a => L ls a
  | f + 1, ls, a => Region.ready md ops ls ≠ [] ∧ ∀ i ∈ Region.ready md ops ls, i < n ∧ qOp P ops C i (anyHead P md ops C n L f (ls.setIfInBounds i true)) a

theorem wpAny_head {n g : Nat} {L : Array Bool → Act → Prop} {Q' : Exit → Act → World → Prop} (hL : ∀ ls a w, C w → L ls a → wpAny P md ops Q' g ls a w) (f : Nat) :
    ∀ (ls : Array Bool) (a : Act) (w : World), C w → anyHead P md ops C n L f ls a → wpAny P md ops Q' (f + g) ls a w := by
  induction f with
  | zero => intro ls a w hw h; rw [Nat.zero_add]; exact hL _ _ _ hw h
  | succ f ih =>
    intro ls a w hw h
    rw [show f + 1 + g = (f + g) + 1 by omega]
    exact ⟨fun h0 => absurd h0 h.1, fun i hi => wpOp_of_qOp hw (fun a' w' hw' h' => ih _ a' w' hw' h') (h.2 i hi).2⟩

theorem head_first {n i : Nat} {oi : Oper} {v : Value} {L : Array Bool → Act → Prop} (hi : ops[i]? = some oi) (hsel : Region.noSelect ops = true)
    (hs : Region.sinkB md ops n = true) (hc : Region.chainB md ops n = true) (hn : n < ops.size) (hin : i < n) (hend : ∀ ls a, L ls a → ∀ j ∈ Region.ready md ops ls, n ≤ j) (f : Nat) :
    ∀ (ls : Array Bool) (a : Act), HeadInv md ops n ls →
      (∀ j oj, ops[j]? = some oj → j ≠ i → ls.getD j true = false → (∀ e ∈ oj.after, Region.binds md e = true → e.on ≠ i) → oi.apart ops oj = true) →
      i ∈ Region.ready md ops ls → YieldsIn P ops C oi v a → anyHead P md ops C n L f (ls.setIfInBounds i true) (a.put oi.dst v) → anyHead P md ops C n L (f + 1) ls a := by
  induction f with
  | zero =>
    intro ls a inv _ hr hy H
    refine ⟨List.ne_nil_of_mem hr, fun j hj => ?_⟩
    have hjn : j < n := Nat.lt_of_not_le fun h => tail_waits hs hc hn inv _ i rfl hin (mem_ready.1 hr).1 j h hj
    refine ⟨hjn, ?_⟩
    by_cases hji : j = i
    · subst hji
      exact hy.qOp hi H
    · exact absurd (hend _ _ H j (ready_mono hj hji)) (by omega)
  | succ f ih =>
    intro ls a inv hfree hr hy H
    refine ⟨List.ne_nil_of_mem hr, fun j hj => ?_⟩
    have hun := (mem_ready.1 hr).1
    have hjn : j < n := Nat.lt_of_not_le fun h => tail_waits hs hc hn inv _ i rfl hin hun j h hj
    refine ⟨hjn, ?_⟩
    by_cases hji : j = i
    · subst hji
      exact hy.qOp hi H
    · obtain ⟨hjun, oj, hoj, hall⟩ := mem_ready.1 hj
      have hno : ∀ e ∈ oj.after, Region.binds md e = true → e.on ≠ i := by
        intro e he hb heq
        have h1 := hall e he hb
        rw [heq, getD_both hun] at h1
        cases h1
      have step := qOp_put hoj (hfree j oj hoj hji hjun hno) (fun cs b => Region.noSelect_spec hsel i oi cs b hi) (fun cs b => Region.noSelect_spec hsel j oj cs b hoj) hy (H.2 j (ready_mono hj hji)).2
      refine qOp_mono (fun a' h3 => ih _ a' (inv.set hj hjn) ?_ (ready_mono hr (Ne.symm hji)) h3.1 ?_) step
      · intro k ok hk hki hku hkn
        refine hfree k ok hk hki ?_ hkn
        by_cases hjk : j = k
        · rw [← hjk]; exact hjun
        · rwa [getD_set_ne true hjk] at hku
      · rw [Array.setIfInBounds_comm _ _ hji]
        exact h3.2

theorem head_lex {n g : Nat} {Lq : Act → Prop} (hsel : Region.noSelect ops = true) (hs : Region.sinkB md ops n = true) (hc : Region.chainB md ops n = true) (hn : n < ops.size) :
    ∀ (l : List Oper) (k : Nat) (ls : Array Bool) (a : Act), (∀ j, j < l.length → l[j]? = ops[k + j]?) → k + l.length = n → HeadInv md ops n ls →
    Region.lexHead md ops g l.length k ls = true → wpQuiet P ops C Lq l a → anyHead P md ops C n (fun ls' a' => Region.seqB md ops g n ls' = true ∧ Lq a') l.length ls a := by
  intro l
  induction l with
  | nil =>
    intro k ls a _ hk _ hB h
    obtain rfl : k = n := by simpa using hk
    exact ⟨by simpa [Region.lexHead] using hB, h⟩
  | cons o l ih =>
    intro k ls a hl hk inv hB h
    have h0 : ops[k]? = some o := by simpa using (hl 0 (by simp)).symm
    simp only [List.length_cons, Region.lexHead, Bool.and_eq_true] at hB hk
    have hkn : k < n := by omega
    have hr : k ∈ Region.ready md ops ls := by simpa using hB.1.1
    obtain ⟨v, hy, hK⟩ := yieldsIn_of_qOp h0 (show qOp P ops C k (wpQuiet P ops C Lq l) a by unfold qOp; simp only [h0]; exact h)
    refine head_first h0 hsel hs hc hn hkn (fun ls' a' hL => seqB_ready hL.1) l.length ls a inv (Region.free_spec h0 hB.1.2) hr hy ?_
    refine ih (k + 1) _ _ (fun j hj => ?_) (by omega) (inv.set hr hkn) hB.2 hK
    have := hl (j + 1) (by simp; omega)
    simpa [Nat.add_assoc, Nat.add_comm 1 j] using this

theorem wp_region_quiet_tail {id : Nat} {Q : Exit → Act → World → Prop} {a : Act} {w : World} {l : List Oper} (n : Nat) (hm : P.follows .mixedOrders = true) (hB : Region.lexTailB .any l.toArray n = true) (hC : C { w with drawn := w.drawn + 1 })
    (h : wpQuiet P l.toArray C (fun a' => ∀ w', C w' → wpList P l.toArray Q (l.drop n) a' w') (l.take n) a) : (Code.region id l.toArray true).wp P Q a w := by
  simp only [Region.lexTailB, Bool.and_eq_true, decide_eq_true_eq] at hB
  obtain ⟨⟨⟨⟨hsel, hn⟩, hs⟩, hc⟩, hlex⟩ := hB
  have hn' : n < l.length := by simpa using hn
  have e1 : (l.take n).length = n := by simp; omega
  have e2 : (l.drop n).length = l.toArray.size - n := by simp
  have inv : HeadInv .any l.toArray n (Array.replicate l.toArray.size false) :=
    ⟨by simp, fun j oj _ hl => (by rw [getD_replicate_false] at hl; cases hl), fun t _ ht => getD_in (by simpa using ht) (getD_replicate_false _ _)⟩
  have H := head_lex (md := .any) (g := l.toArray.size - n) hsel hs hc hn (l.take n) 0 _ a (fun j hj => by
    rw [e1] at hj
    simp [hj]) (by omega) inv (by rw [e1]; exact hlex) h
  refine wp_region_any hm ?_
  have := wpAny_head (Q' := Q) (g := l.toArray.size - n) (fun ls a' w' hw' hL => by
    have := wpAny_of_seq (md := .any) (Q' := Q) (l.drop n) n ls a' w' (fun j => by simp [List.getElem?_drop]) (by rw [e2]; exact hL.1) (hL.2 w' hw')
    rwa [e2] at this) _ _ _ _ hC H
  rw [e1, show n + (l.toArray.size - n) = l.toArray.size by omega] at this
  exact this
/-- The same, where the class is the worlds that have drawn. -/
theorem wp_region_quiet_tail_lit {id : Nat} {Q : Exit → Act → World → Prop} {a : Act} {w : World} {l : List Oper} (n : Nat) (hm : P.follows .mixedOrders = true) (hB : Region.lexTailB .any l.toArray n = true)
    (h : wpQuiet P l.toArray (fun w' => ∃ m, w' = w.drewN m) (fun a' => ∀ w', (∃ m, w' = w.drewN m) → wpList P l.toArray Q (l.drop n) a' w') (l.take n) a) : (Code.region id l.toArray true).wp P Q a w :=
  wp_region_quiet_tail (C := fun w' => ∃ m, w' = w.drewN m) n hm hB ⟨1, rfl⟩ h
/-- The same, where the class is the worlds that have drawn, and made memory. -/
theorem wp_region_quiet_tail_below {id : Nat} {Q : Exit → Act → World → Prop} {a : Act} {w : World} {l : List Oper} (n : Nat) (hm : P.follows .mixedOrders = true) (hB : Region.lexTailB .any l.toArray n = true)
    (h : wpQuiet P l.toArray (fun w' => ∃ p : Regrown, w' = grow (redrawn w p.d) p.os) (fun a' => ∀ w', (∃ p : Regrown, w' = grow (redrawn w p.d) p.os) → wpList P l.toArray Q (l.drop n) a' w') (l.take n) a) : (Code.region id l.toArray true).wp P Q a w :=
  wp_region_quiet_tail (C := fun w' => ∃ p : Regrown, w' = grow (redrawn w p.d) p.os) n hm hB ⟨⟨w.drawn + 1, #[]⟩, by rw [grow_empty]; rfl⟩ h
end
end Go.Proofs.YtilneflfeegnfaaGreat

/-
  A region that draws its order and whose last operations wait, one behind the other, for all the rest (append into a row that was made ahead of it, and the assignment): by what holds of each of the first ones once it has come up; the last ones are a list behind them. Also: operations with a guard. No condition of the program's.
-/
namespace Go.Proofs.YtilneflfeegnfaaGreat
open Go
section
variable {P : Program} {Q : Exit → Act → World → Prop}

/-- Operation k waits, through others, for all ahead of it. -/
def waitB (L : List Oper) (k : Nat) : Bool := (List.range k).all fun i => (List.range (k + 1)).any fun j => (L[j]?).any fun o => o.after.any fun e => Region.binds .any e && decide (e.on = i)

theorem wait_all {L : List Oper} {ls : Array Bool} {k : Nat} {ok : Oper} (hk : L[k]? = some ok) (hw : waitB L k = true)
    (hacyc : (List.range L.length).all (fun i => (L[i]?).all fun o => o.after.all fun e => !Region.binds .any e || decide (e.on < i)) = true)
    (hcl : ∀ i, ls.getD i false = true → ∀ o', L[i]? = some o' → ∀ e ∈ o'.after, Region.binds .any e = true → ls.getD e.on false = true)
    (hall : ∀ e ∈ ok.after, Region.binds .any e = true → ls.getD e.on false = true) : ∀ i, i < k → ls.getD i false = true := by
  have key : ∀ n i, k ≤ i + n → i < k → ls.getD i false = true := by
    intro n
    induction n with
    | zero => intro i h1 h2; omega
    | succ n ih =>
      intro i h1 h2
      obtain ⟨j, hj, hw2⟩ := List.any_eq_true.1 (List.all_eq_true.1 hw i (List.mem_range.2 h2))
      have hjk := List.mem_range.1 hj
      have hkl := (List.getElem?_eq_some_iff.1 hk).1
      have hjl : j < L.length := by omega
      rw [List.getElem?_eq_getElem hjl, Option.any_some, Array.any_eq_true] at hw2
      obtain ⟨q, hq, hw3⟩ := hw2
      simp only [Bool.and_eq_true, decide_eq_true_eq] at hw3
      have hij : i < j := by
        have h3 := List.all_eq_true.1 hacyc j (List.mem_range.2 hjl)
        rw [List.getElem?_eq_getElem hjl, Option.all_some, Array.all_eq_true_iff_forall_mem] at h3
        have h4 := h3 _ (Array.getElem_mem hq)
        simp only [hw3.1, Bool.not_true, Bool.false_or, decide_eq_true_eq] at h4
        omega
      rw [← hw3.2]
      by_cases hjn : j = k
      · subst hjn
        have : L[j] = ok := by
          rw [List.getElem?_eq_getElem hjl] at hk
          exact Option.some.inj hk
        exact hall _ (this ▸ Array.getElem_mem hq) hw3.1
      · exact hcl j (ih j (by omega) (by omega)) _ (List.getElem?_eq_getElem hjl) _ (Array.getElem_mem hq) hw3.1
  intro i hi
  exact key k i (by omega) hi

/-- The whole region. -/
theorem wp_region_tail {id : Nat} {a : Act} {w : World} {l T L : List Oper} (S : World → Prop) (G : World → World → Prop) (F : Nat → Value → World → Prop) (hm : P.follows .mixedOrders = true) (hL : L = l ++ T) (hT : T ≠ []) (hap : ogApart l = true)
    (hacyc : (List.range L.length).all (fun i => (L[i]?).all fun o => o.after.all fun e => !Region.binds .any e || decide (e.on < i)) = true)
    (hwait : (List.range T.length).all (fun m => waitB L (l.length + m)) = true)
    (hS : S w.drew) (hG : ∀ i v w w', F i v w → S w → G w w' → F i v w')
    (hstep : OgSteps P L.toArray Q (fun u => ogMk 0 l u a) S G F 0 l)
    (hend : ∀ u w, S w → (∀ i, i < l.length → F i (u i) w) → wpList P L.toArray Q T (ogMk 0 l u a) w) : (Code.region id L.toArray true).wp P Q a w := by
  obtain ⟨u0, hu0⟩ := ogMk_own l 0 a
  have hput := ogPut_mk a l hap l 0 fun i o ho => by rwa [Nat.zero_add]
  have hlen : L.length = l.length + T.length := by rw [hL]; simp
  have hTp : 0 < T.length := List.length_pos_iff.2 hT
  have hhead : ∀ i o', i < l.length → L[i]? = some o' → l[i]? = some o' := by
    intro i o' hi ho
    rw [hL, List.getElem?_append_left hi] at ho
    exact ho
  have htail : ∀ m, L[l.length + m]? = T[m]? := by
    intro m
    rw [hL, List.getElem?_append_right (by omega)]
    congr 1
    omega
  suffices H : ∀ a', a' = ogMk 0 l u0 a → (Code.region id L.toArray true).wp P Q a' w from H a hu0.symm
  rintro _ rfl
  refine wp_region_any hm ?_
  have hsz : L.toArray.size = (Array.replicate L.toArray.size false).toList.countP (· == false) := by simp [List.countP_replicate]
  conv => arg 5; rw [hsz]
  refine wpAny_inv (ops := L.toArray) (fun ls a' w => ls.size = L.toArray.size ∧ (∀ i, ls.getD i false = true → ∀ o', L[i]? = some o' → ∀ e ∈ o'.after, Region.binds .any e = true → ls.getD e.on false = true) ∧
      ∃ m, m ≤ T.length ∧ (∀ j, l.length + m ≤ j → j < L.length → ls.getD j false = false) ∧
      ((m = 0 ∧ S w ∧ ∃ u, a' = ogMk 0 l u a ∧ ∀ i, ls.getD i false = true → F i (u i) w) ∨
       (0 < m ∧ (∀ i, i < l.length + m → ls.getD i false = true) ∧ wpList P L.toArray Q (T.drop m) a' w))) (fun _ _ _ h => h.1) ?_ ?_ _ _ _ _ rfl ⟨by simp, fun i hi => ?_, 0, by omega, fun j h1 h2 => ?_, .inl ⟨rfl, hS, u0, rfl, fun i hi => ?_⟩⟩
  · rintro ls a' w i ⟨hl, hcl, m, hm', hno, h⟩ hi
    obtain ⟨hun, o', ho, hall⟩ := mem_ready.1 hi
    have ho' : L[i]? = some o' := by simpa using ho
    have hil : i < ls.size := by
      rcases Nat.lt_or_ge i ls.size with h' | h'
      · exact h'
      · simp [h'] at hun
    have hiL : i < L.length := by simpa [hl] using hil
    have hun' : ls.getD i false = false := by simpa [hil] using hun
    have hcl' : ∀ j, (ls.setIfInBounds i true).getD j false = true → ∀ o', L[j]? = some o' → ∀ e ∈ o'.after, Region.binds .any e = true → (ls.setIfInBounds i true).getD e.on false = true := by
      intro j hj oj hoj e he hb
      have up : ls.getD e.on false = true → (ls.setIfInBounds i true).getD e.on false = true := by
        intro h
        by_cases hei : e.on = i
        · rw [hei]; exact getD_set_self hil
        · rw [getD_set_ne false (Ne.symm hei)]; exact h
      by_cases hji : j = i
      · subst hji
        obtain rfl : oj = o' := by rw [ho'] at hoj; exact (Option.some.inj hoj).symm
        exact up (hall e he hb)
      · rw [getD_set_ne false (Ne.symm hji)] at hj
        exact up (hcl j hj oj hoj e he hb)
    by_cases hil' : i < l.length
    · rcases h with ⟨rfl, hs, u, rfl, hF⟩ | ⟨_, hdone, _⟩
      · have st := hstep.at (hhead i o' hil' ho') u w hs (fun e he hb => hF _ (hall e he hb))
        rw [Nat.zero_add] at st
        have pt := hput.at (hhead i o' hil' ho')
        rw [Nat.zero_add] at pt
        have hno' : ∀ j, l.length + 0 ≤ j → j < L.length → (ls.setIfInBounds i true).getD j false = false := fun j h1 h2 => by
          rw [getD_set_ne false (by omega)]; exact hno j h1 h2
        unfold wpOp
        simp only [ho]
        split
        · rename_i hw
          rw [if_pos hw] at st
          refine .inl (Oper.wp_mono ?_ st)
          rintro a' w' ⟨v, rfl, hv, hs', hg⟩
          refine ⟨by simpa using hl, hcl', 0, by omega, hno', .inl ⟨rfl, hs', _, pt u v, fun j hj => ?_⟩⟩
          by_cases hji : j = i
          · subst hji; simpa using hv
          · rw [getD_set_ne false (Ne.symm hji)] at hj
            simp only [hji, if_false]
            exact hG _ _ _ _ (hF j hj) hs hg
        · rename_i hw
          rw [if_neg hw] at st
          refine ⟨by simpa using hl, hcl', 0, by omega, hno', .inl ⟨rfl, hs, _, pt u undef, fun j hj => ?_⟩⟩
          by_cases hji : j = i
          · subst hji; simpa using st
          · rw [getD_set_ne false (Ne.symm hji)] at hj
            simp only [hji, if_false]
            exact hF j hj
      · rw [hdone i (by omega)] at hun'
        cases hun'
    · obtain ⟨q, rfl⟩ : ∃ q, i = l.length + q := ⟨i - l.length, by omega⟩
      have hqT : q < T.length := by omega
      have hbefore := wait_all ho' (List.all_eq_true.1 hwait q (List.mem_range.2 hqT)) hacyc hcl hall
      have hqm : q = m := by
        rcases Nat.lt_trichotomy q m with hlt | heq | hgt
        · rcases h with ⟨rfl, _⟩ | ⟨_, hdone, _⟩
          · omega
          · rw [hdone _ (by omega)] at hun'
            cases hun'
        · exact heq
        · have h1 := hbefore (l.length + m) (by omega)
          rw [hno (l.length + m) (by omega) (by omega)] at h1
          cases h1
      subst hqm
      have st : wpList P L.toArray Q (T.drop q) a' w := by
        rcases h with ⟨rfl, hs, u, rfl, hF⟩ | ⟨_, _, h⟩
        · rw [List.drop_zero]
          exact hend u w hs fun i hi => hF i (hbefore i (by omega))
        · exact h
      have hTq : T.drop q = o' :: T.drop (q + 1) := by
        rw [List.drop_eq_getElem_cons hqT]
        congr 1
        have := htail q
        rw [ho', List.getElem?_eq_getElem hqT] at this
        exact (Option.some.inj this).symm
      rw [hTq] at st
      have hno' : ∀ j, l.length + (q + 1) ≤ j → j < L.length → (ls.setIfInBounds (l.length + q) true).getD j false = false := fun j h1 h2 => by
        rw [getD_set_ne false (by omega)]; exact hno j (by omega) h2
      have hset : ∀ i, i < l.length + (q + 1) → (ls.setIfInBounds (l.length + q) true).getD i false = true := by
        intro j hj
        by_cases hjl : j = l.length + q
        · subst hjl; exact getD_set_self hil
        · rw [getD_set_ne false (Ne.symm hjl)]; exact hbefore j (by omega)
      unfold wpOp
      simp only [ho]
      unfold wpList at st
      split
      · rename_i hw
        rw [if_pos hw] at st
        rcases st with st | st
        · exact .inl (Oper.wp_mono (fun a'' w'' h => ⟨by simpa using hl, hcl', q + 1, by omega, hno', .inr ⟨by omega, hset, h⟩⟩) st)
        · exact .inr st
      · rename_i hw
        rw [if_neg hw] at st
        exact ⟨by simpa using hl, hcl', q + 1, by omega, hno', .inr ⟨by omega, hset, st⟩⟩
  · rintro ls a' w ⟨hl, hcl, m, hm', hno, h⟩ hr
    have hl' : ls.size = L.length := by simpa using hl
    have key : ∀ n i, i < n → i < L.length → ls.getD i false = true := by
      intro n
      induction n with
      | zero => intro i h; omega
      | succ n ih =>
        intro i hin hil
        by_cases hc : ls.getD i false = true
        · exact hc
        · exfalso
          have hmem : i ∈ Region.ready .any L.toArray ls := by
            refine mem_ready.2 ⟨getD_false (by omega) hc, L[i], by simp [hil], fun e he hb => ?_⟩
            have h1 := List.all_eq_true.1 hacyc i (List.mem_range.2 hil)
            rw [List.getElem?_eq_getElem hil] at h1
            simp only [Option.all_some] at h1
            have h2 := Array.all_eq_true_iff_forall_mem.1 h1 e he
            simp only [hb, Bool.not_true, Bool.false_or, decide_eq_true_eq] at h2
            exact ih e.on (by omega) (by omega)
          rw [hr] at hmem
          cases hmem
    rcases Nat.lt_or_ge m T.length with hlt | hge
    · exfalso
      have h1 := key (l.length + m + 1) (l.length + m) (by omega) (by omega)
      rw [hno _ (by omega) (by omega)] at h1
      cases h1
    · rcases h with ⟨rfl, _⟩ | ⟨_, _, h⟩
      · omega
      · rw [List.drop_eq_nil_of_le hge] at h
        exact h
  · exfalso
    rcases Nat.lt_or_ge i L.length with h' | h' <;> simp [h'] at hi
  · simp [h2]
  · exfalso
    rcases Nat.lt_or_ge i L.length with h' | h' <;> simp [h'] at hi
/-- A region whose first n operations make memory, and turn nothing that was there, in whatever order; the last ones stand behind them. -/
theorem wp_region_below_tail {id : Nat} {a : Act} {w : World} {L : List Oper} (n : Nat) (Φ : List (Value → World → Prop)) (hm : P.follows .mixedOrders = true) (hT : L.drop n ≠ []) (hap : ogApart (L.take n) = true)
    (hacyc : (List.range L.length).all (fun i => (L[i]?).all fun o => o.after.all fun e => !Region.binds .any e || decide (e.on < i)) = true)
    (hwait : (List.range (L.drop n).length).all (fun m => waitB L ((L.take n).length + m)) = true)
    (hΦ : ∀ φ ∈ Φ, Stable φ)
    (hstep : OgSteps P L.toArray Q (fun u => ogMk 0 (L.take n) u a) (fun w' => RowKit.Below w.heap.size w w') (fun w1 w2 => RowKit.Below w1.heap.size w1 w2) (fAt Φ) 0 (L.take n))
    (hend : ∀ u w', RowKit.Below w.heap.size w w' → (∀ i, i < (L.take n).length → fAt Φ i (u i) w') → wpList P L.toArray Q (L.drop n) (ogMk 0 (L.take n) u a) w') : (Code.region id L.toArray true).wp P Q a w :=
  wp_region_tail (fun w' => RowKit.Below w.heap.size w w') (fun w1 w2 => RowKit.Below w1.heap.size w1 w2) (fAt Φ) hm (List.take_append_drop n L).symm hT hap hacyc hwait (RowKit.Below.refl _ _).drew (fun i v w1 w2 h _ hg => stable_at hΦ i v w1 w2 h hg) hstep hend

/-- An operation whose guard does not ask for it. -/
theorem OgStep.skip {ops : Array Oper} {mk : (Nat → Value) → Act} {Φ : List (Value → World → Prop)} {i : Nat} {o : Oper} {w0 : World} (hi : fAt Φ i = fx undef)
    (h : ∀ u w, (∀ e ∈ o.after, Region.binds .any e = true → fAt Φ e.on (u e.on) w) → Region.wanted o (yielded ops (mk u).tmps) = false) :
    OgStep P ops Q mk (fun w' => RowKit.Below w0.heap.size w0 w') (fun w1 w2 => RowKit.Below w1.heap.size w1 w2) (fAt Φ) i o := by
  intro u w hS hp
  rw [if_neg (by rw [h u w hp]; simp), hi]
  rfl
/-- One with a guard that asks for it. -/
theorem OgStep.want {ops : Array Oper} {mk : (Nat → Value) → Act} {F : Nat → Value → World → Prop} {S : World → Prop} {G : World → World → Prop} {i : Nat} {o : Oper}
    (hw : ∀ u w, S w → (∀ e ∈ o.after, Region.binds .any e = true → F e.on (u e.on) w) → Region.wanted o (yielded ops (mk u).tmps) = true)
    (h : ∀ u w, S w → (∀ e ∈ o.after, Region.binds .any e = true → F e.on (u e.on) w) → o.wp P (mk u) w (fun a' w' => ∃ v, a' = (mk u).put o.dst v ∧ F i v w' ∧ S w' ∧ G w w') Q) : OgStep P ops Q mk S G F i o := by
  intro u w hS hp
  rw [if_pos (hw u w hS hp)]
  exact h u w hS hp
theorem OgStep.made' {ops : Array Oper} {mk : (Nat → Value) → Act} {Φ : List (Value → World → Prop)} {i : Nat} {o : Oper} {w0 : World}
    (hw : ∀ u w, (∀ e ∈ o.after, Region.binds .any e = true → fAt Φ e.on (u e.on) w) → Region.wanted o (yielded ops (mk u).tmps) = true)
    (h : ∀ u w, RowKit.Below w0.heap.size w0 w → (∀ e ∈ o.after, Region.binds .any e = true → fAt Φ e.on (u e.on) w) → ∃ v w', (execOp (mk u).eval o).run P w = .ok (.value v) w' ∧ RowKit.Below w.heap.size w w' ∧ fAt Φ i v w') :
    OgStep P ops Q mk (fun w' => RowKit.Below w0.heap.size w0 w') (fun w1 w2 => RowKit.Below w1.heap.size w1 w2) (fAt Φ) i o :=
  OgStep.want (fun u w _ hp => hw u w hp) fun u w hS hp => by
    obtain ⟨v, w', hr, hB, hF⟩ := h u w hS hp
    unfold Oper.wp
    rw [hr]
    exact ⟨v, rfl, hF, hS.trans (hB.mono hS.size), hB⟩
theorem OgStep.pure' {ops : Array Oper} {mk : (Nat → Value) → Act} {Φ : List (Value → World → Prop)} {i : Nat} {o : Oper} {w0 : World}
    (hw : ∀ u w, (∀ e ∈ o.after, Region.binds .any e = true → fAt Φ e.on (u e.on) w) → Region.wanted o (yielded ops (mk u).tmps) = true)
    (h : ∀ u w, RowKit.Below w0.heap.size w0 w → (∀ e ∈ o.after, Region.binds .any e = true → fAt Φ e.on (u e.on) w) → ∃ v, (execOp (mk u).eval o).run P w = .ok (.value v) w ∧ fAt Φ i v w) :
    OgStep P ops Q mk (fun w' => RowKit.Below w0.heap.size w0 w') (fun w1 w2 => RowKit.Below w1.heap.size w1 w2) (fAt Φ) i o :=
  OgStep.made' hw fun u w hS hp => by
    obtain ⟨v, hr, hF⟩ := h u w hS hp
    exact ⟨v, w, hr, RowKit.Below.refl _ _, hF⟩
theorem OgStep.calls' {ops : Array Oper} {mk : (Nat → Value) → Act} {Φ : List (Value → World → Prop)} {i : Nat} {o : Oper} {w0 : World}
    (hw : ∀ u w, (∀ e ∈ o.after, Region.binds .any e = true → fAt Φ e.on (u e.on) w) → Region.wanted o (yielded ops (mk u).tmps) = true)
    (h : ∀ u w, RowKit.Below w0.heap.size w0 w → (∀ e ∈ o.after, Region.binds .any e = true → fAt Φ e.on (u e.on) w) →
      ∃ f args, (execOp (mk u).eval o).run P w = .ok (.enter f args) w ∧ Calls P f args w fun e w' => ∃ v, e = .returned v ∧ RowKit.Below w.heap.size w w' ∧ fAt Φ i v w') :
    OgStep P ops Q mk (fun w' => RowKit.Below w0.heap.size w0 w') (fun w1 w2 => RowKit.Below w1.heap.size w1 w2) (fAt Φ) i o :=
  OgStep.want (fun u w _ hp => hw u w hp) fun u w hS hp => by
    obtain ⟨f, args, hr, hc⟩ := h u w hS hp
    unfold Oper.wp
    rw [hr]
    refine hc.mono ?_
    rintro e w' ⟨v, rfl, hB, hF⟩
    exact ⟨v, rfl, hF, hS.trans (hB.mono hS.size), hB⟩
end
end Go.Proofs.YtilneflfeegnfaaGreat

/-
  Operations of a region that draws its order, looked at by what they read alone: the frame is never written out. With guards, too. No condition of the program's.
-/
set_option linter.unusedSimpArgs false
set_option linter.unusedVariables false
namespace Go.Proofs.YtilneflfeegnfaaGreat
open Go
section
variable {P : Program} {Q : Exit → Act → World → Prop}

theorem ogMk_size {u : Nat → Value} : ∀ (l : List Oper) (k : Nat) (a : Act), (ogMk k l u a).tmps.size = a.tmps.size
  | [], _, _ => rfl
  | o :: l, k, a => by
    rw [ogMk, ogMk_size l (k + 1)]
    cases o.dst with
    | none => rfl
    | some d => simp [Act.put]
theorem og_eval {l : List Oper} {u : Nat → Value} {a : Act} {j d : Nat} (hap : ogApart l = true) (hd : (l[j]?).bind (·.dst) = some d) (hs : d < a.tmps.size) : (ogMk 0 l u a).tmps[d]? = some (u j) := by
  obtain ⟨o, ho, hd⟩ := Option.bind_eq_some_iff.1 hd
  have h1 := ogMk_put (u := u) (v := u j) l 0 j o a hap ho
  rw [Nat.zero_add] at h1
  have h2 : (fun i => if i = j then u j else u i) = u := by
    funext i
    by_cases e : i = j
    · rw [if_pos e, e]
    · rw [if_neg e]
  rw [h2, hd] at h1
  rw [← h1]
  simp [Act.put, ogMk_size, hs]
theorem og_other {u : Nat → Value} {d : Nat} : ∀ (l : List Oper) (k : Nat) (a : Act), (l.all fun o => o.dst != some d) = true → (ogMk k l u a).tmps[d]? = a.tmps[d]?
  | [], _, _, _ => rfl
  | o :: l, k, a, h => by
    simp only [List.all_cons, Bool.and_eq_true, bne_iff_ne] at h
    rw [ogMk, og_other l (k + 1) _ h.2]
    cases e : o.dst with
    | none => rfl
    | some d' =>
      have hne : d' ≠ d := fun q => h.1 (by rw [e, q])
      simp [Act.put, Array.getElem?_setIfInBounds, hne]
/-- What an operation reads: what others gave, what the frame has, constants. -/
structure Rho (l : List Oper) (a : Act) (u : Nat → Value) (ρ : Operand → Value) : Prop where
  op : ∀ j d, ((l[j]?).bind (·.dst) == some d && decide (d < a.tmps.size)) = true → ρ (.tmp d) = u j
  other : ∀ d, (l.all fun o => o.dst != some d) = true → ρ (.tmp d) = a.eval (.tmp d)
  const : ∀ c, ρ (.const c) = c
  func : ∀ f, ρ (.func f) = .func (.func f) #[] #[]
theorem rho_mk {l : List Oper} {a : Act} {u : Nat → Value} (hap : ogApart l = true) : Rho l a u (ogMk 0 l u a).eval := by
  refine ⟨fun j d hds => ?_, fun d h => ?_, fun _ => rfl, fun _ => rfl⟩
  · simp only [Bool.and_eq_true, beq_iff_eq, decide_eq_true_eq] at hds
    have := og_eval (u := u) hap hds.1 hds.2
    show (ogMk 0 l u a).tmps.getD d undef = _
    simp [Array.getD_eq_getD_getElem?, this]
  · have := og_other (u := u) (d := d) l 0 a h
    show (ogMk 0 l u a).tmps.getD d undef = a.tmps.getD d undef
    simp [Array.getD_eq_getD_getElem?, this]
theorem wanted_yes {l : List Oper} {a : Act} {u : Nat → Value} {o : Oper} {j dj : Nat} {b : Bool} (hap : ogApart l = true) (hg : o.guard = some (j, b)) (hjs : ((l[j]?).bind (·.dst) == some dj && decide (dj < a.tmps.size)) = true) (hv : u j = .bool b) :
    Region.wanted o (yielded l.toArray (ogMk 0 l u a).tmps) = true := by
  simp only [Bool.and_eq_true, beq_iff_eq, decide_eq_true_eq] at hjs
  have hj := hjs.1
  have h1 := og_eval (u := u) hap hj hjs.2
  have h2 : (l.toArray[j]?).bind (·.dst) = some dj := by rw [List.getElem?_toArray]; exact hj
  simp only [Region.wanted, hg, yielded, h2, Option.bind_some, h1, hv]
  simp
theorem wanted_no {l : List Oper} {a : Act} {u : Nat → Value} {o : Oper} {j dj : Nat} {b : Bool} (hap : ogApart l = true) (hg : o.guard = some (j, b)) (hjs : ((l[j]?).bind (·.dst) == some dj && decide (dj < a.tmps.size)) = true) (hv : u j = .bool (!b) ∨ u j = undef) :
    Region.wanted o (yielded l.toArray (ogMk 0 l u a).tmps) = false := by
  simp only [Bool.and_eq_true, beq_iff_eq, decide_eq_true_eq] at hjs
  have hj := hjs.1
  have h1 := og_eval (u := u) hap hj hjs.2
  have h2 : (l.toArray[j]?).bind (·.dst) = some dj := by rw [List.getElem?_toArray]; exact hj
  rcases hv with hv | hv
  · simp only [Region.wanted, hg, yielded, h2, Option.bind_some, h1, hv]
    cases b <;> simp
  · simp only [Region.wanted, hg, yielded, h2, Option.bind_some, h1, hv]
    simp [undef]
variable {l : List Oper} {a : Act} {Φ : List (Value → World → Prop)} {i : Nat} {o : Oper} {w0 : World}
/-- What an operation waits for has come up, and holds. -/
def Hp (Φ : List (Value → World → Prop)) (o : Oper) (u : Nat → Value) (w : World) : Prop := ∀ e ∈ o.after, Region.binds .any e = true → fAt Φ e.on (u e.on) w
theorem OgStep.rmade {ops : Array Oper} (hap : ogApart l = true) (hg : o.guard = none)
    (h : ∀ u ρ w, Rho l a u ρ → RowKit.Below w0.heap.size w0 w → Hp Φ o u w → ∃ v w', (execOp ρ o).run P w = .ok (.value v) w' ∧ RowKit.Below w.heap.size w w' ∧ fAt Φ i v w') :
    OgStep P ops Q (fun u => ogMk 0 l u a) (fun w' => RowKit.Below w0.heap.size w0 w') (fun w1 w2 => RowKit.Below w1.heap.size w1 w2) (fAt Φ) i o :=
  OgStep.made hg fun u w hS hp => h u _ w (rho_mk hap) hS hp
theorem OgStep.rpure {ops : Array Oper} (hap : ogApart l = true) (hg : o.guard = none)
    (h : ∀ u ρ w, Rho l a u ρ → RowKit.Below w0.heap.size w0 w → Hp Φ o u w → ∃ v, (execOp ρ o).run P w = .ok (.value v) w ∧ fAt Φ i v w) :
    OgStep P ops Q (fun u => ogMk 0 l u a) (fun w' => RowKit.Below w0.heap.size w0 w') (fun w1 w2 => RowKit.Below w1.heap.size w1 w2) (fAt Φ) i o :=
  OgStep.pure hg fun u w hS hp => h u _ w (rho_mk hap) hS hp
theorem OgStep.rcalls {ops : Array Oper} (hap : ogApart l = true) (hg : o.guard = none)
    (h : ∀ u ρ w, Rho l a u ρ → RowKit.Below w0.heap.size w0 w → Hp Φ o u w → ∃ f args, (execOp ρ o).run P w = .ok (.enter f args) w ∧ Calls P f args w fun e w' => ∃ v, e = .returned v ∧ RowKit.Below w.heap.size w w' ∧ fAt Φ i v w') :
    OgStep P ops Q (fun u => ogMk 0 l u a) (fun w' => RowKit.Below w0.heap.size w0 w') (fun w1 w2 => RowKit.Below w1.heap.size w1 w2) (fAt Φ) i o :=
  OgStep.calls hg fun u w hS hp => h u _ w (rho_mk hap) hS hp
theorem OgStep.gmade (j dj : Nat) (b : Bool) (hap : ogApart l = true) (hg : o.guard = some (j, b)) (hjs : ((l[j]?).bind (·.dst) == some dj && decide (dj < a.tmps.size)) = true) (hv : ∀ u w, Hp Φ o u w → u j = .bool b)
    (h : ∀ u ρ w, Rho l a u ρ → RowKit.Below w0.heap.size w0 w → Hp Φ o u w → ∃ v w', (execOp ρ o).run P w = .ok (.value v) w' ∧ RowKit.Below w.heap.size w w' ∧ fAt Φ i v w') :
    OgStep P l.toArray Q (fun u => ogMk 0 l u a) (fun w' => RowKit.Below w0.heap.size w0 w') (fun w1 w2 => RowKit.Below w1.heap.size w1 w2) (fAt Φ) i o :=
  OgStep.made' (fun u w hp => wanted_yes hap hg hjs (hv u w hp)) fun u w hS hp => h u _ w (rho_mk hap) hS hp
theorem OgStep.gpure (j dj : Nat) (b : Bool) (hap : ogApart l = true) (hg : o.guard = some (j, b)) (hjs : ((l[j]?).bind (·.dst) == some dj && decide (dj < a.tmps.size)) = true) (hv : ∀ u w, Hp Φ o u w → u j = .bool b)
    (h : ∀ u ρ w, Rho l a u ρ → RowKit.Below w0.heap.size w0 w → Hp Φ o u w → ∃ v, (execOp ρ o).run P w = .ok (.value v) w ∧ fAt Φ i v w) :
    OgStep P l.toArray Q (fun u => ogMk 0 l u a) (fun w' => RowKit.Below w0.heap.size w0 w') (fun w1 w2 => RowKit.Below w1.heap.size w1 w2) (fAt Φ) i o :=
  OgStep.pure' (fun u w hp => wanted_yes hap hg hjs (hv u w hp)) fun u w hS hp => h u _ w (rho_mk hap) hS hp
theorem OgStep.gcalls (j dj : Nat) (b : Bool) (hap : ogApart l = true) (hg : o.guard = some (j, b)) (hjs : ((l[j]?).bind (·.dst) == some dj && decide (dj < a.tmps.size)) = true) (hv : ∀ u w, Hp Φ o u w → u j = .bool b)
    (h : ∀ u ρ w, Rho l a u ρ → RowKit.Below w0.heap.size w0 w → Hp Φ o u w → ∃ f args, (execOp ρ o).run P w = .ok (.enter f args) w ∧ Calls P f args w fun e w' => ∃ v, e = .returned v ∧ RowKit.Below w.heap.size w w' ∧ fAt Φ i v w') :
    OgStep P l.toArray Q (fun u => ogMk 0 l u a) (fun w' => RowKit.Below w0.heap.size w0 w') (fun w1 w2 => RowKit.Below w1.heap.size w1 w2) (fAt Φ) i o :=
  OgStep.calls' (fun u w hp => wanted_yes hap hg hjs (hv u w hp)) fun u w hS hp => h u _ w (rho_mk hap) hS hp
theorem OgStep.gskip (j dj : Nat) (b : Bool) (hap : ogApart l = true) (hg : o.guard = some (j, b)) (hjs : ((l[j]?).bind (·.dst) == some dj && decide (dj < a.tmps.size)) = true) (hv : ∀ u w, Hp Φ o u w → u j = .bool (!b) ∨ u j = undef) (hi : fAt Φ i = fx undef) :
    OgStep P l.toArray Q (fun u => ogMk 0 l u a) (fun w' => RowKit.Below w0.heap.size w0 w') (fun w1 w2 => RowKit.Below w1.heap.size w1 w2) (fAt Φ) i o :=
  OgStep.skip hi fun u w hp => wanted_no hap hg hjs (hv u w hp)
/-- The whole region; that no two operations write one slot is shown once. -/
theorem wp_region_rho {id : Nat} {a : Act} {w : World} {l : List Oper} (Φ : List (Value → World → Prop)) (hm : P.follows .mixedOrders = true) (hap : ogApart l = true)
    (hacyc : (List.range l.length).all (fun i => (l[i]?).all fun o => o.after.all fun e => !Region.binds .any e || decide (e.on < i)) = true) (hΦ : ∀ φ ∈ Φ, Stable φ)
    (hstep : ogApart l = true → OgSteps P l.toArray Q (fun u => ogMk 0 l u a) (fun w' => RowKit.Below w.heap.size w w') (fun w1 w2 => RowKit.Below w1.heap.size w1 w2) (fAt Φ) 0 l)
    (hend : ∀ u w', RowKit.Below w.heap.size w w' → (∀ i, i < l.length → fAt Φ i (u i) w') → Q .normal (ogMk 0 l u a) w') : (Code.region id l.toArray true).wp P Q a w :=
  wp_region_below Φ hm hap hacyc hΦ (hstep hap) hend
/-- The same, the last operations behind all others. -/
theorem wp_region_rho_tail {id : Nat} {a : Act} {w : World} {L : List Oper} (n : Nat) (Φ : List (Value → World → Prop)) (hm : P.follows .mixedOrders = true) (hT : L.drop n ≠ []) (hap : ogApart (L.take n) = true)
    (hacyc : (List.range L.length).all (fun i => (L[i]?).all fun o => o.after.all fun e => !Region.binds .any e || decide (e.on < i)) = true)
    (hwait : (List.range (L.drop n).length).all (fun m => waitB L ((L.take n).length + m)) = true)
    (hΦ : ∀ φ ∈ Φ, Stable φ)
    (hstep : ogApart (L.take n) = true → OgSteps P L.toArray Q (fun u => ogMk 0 (L.take n) u a) (fun w' => RowKit.Below w.heap.size w w') (fun w1 w2 => RowKit.Below w1.heap.size w1 w2) (fAt Φ) 0 (L.take n))
    (hend : ∀ u w', RowKit.Below w.heap.size w w' → (∀ i, i < (L.take n).length → fAt Φ i (u i) w') → wpList P L.toArray Q (L.drop n) (ogMk 0 (L.take n) u a) w') : (Code.region id L.toArray true).wp P Q a w :=
  wp_region_below_tail n Φ hm hT hap hacyc hwait hΦ (hstep hap) hend
end
end Go.Proofs.YtilneflfeegnfaaGreat

/-
  The contracts of clock.Clamp, clock.Since and clock.Within, and of the statements' own address and choice; a choice in memory. Conditions: bytes are bytes.
-/
set_option linter.unusedSimpArgs false
set_option linter.unusedVariables false
namespace Go.Proofs.YtilneflfeegnfaaGreat
open Go.RowKit

/-- A number limited to 0 .. 2^40. -/
def cl (n : Int) : Int := if n < 0 then 0 else if 1099511627776 < n then 1099511627776 else n
theorem cl_ge (n : Int) : 0 ≤ cl n := by unfold cl; split; omega; split <;> omega
theorem cl_le (n : Int) : cl n ≤ 1099511627776 := by unfold cl; split; omega; split <;> omega
theorem cl_eq (n : Int) : min (max n 0) 1099511627776 = cl n := by unfold cl; split; omega; split <;> omega
theorem cl_eq' (n : Int) : max 0 (min n 1099511627776) = cl n := by unfold cl; split; omega; split <;> omega
theorem cl_in {n : Int} (h0 : 0 ≤ n) (h1 : n ≤ 1099511627776) : cl n = n := by unfold cl; rw [if_neg (by omega), if_neg (by omega)]
theorem clamp_any (n : Int) (w : World) : Calls Tryz.prog 79 #[.int .i64 n] w fun e w' => e = .returned (.int .i64 (cl n)) ∧ w = w' := by
  go_enter Tryz.func79, Tryz.ntmps79
  go_wp2
  go_ret
  exact ⟨ret_int (cl_eq n), rfl⟩

/-- So many ticks ago. -/
def si (now t : Int) : Int := cl now - cl t
theorem since_any (t n : Int) (w : World) : Calls Tryz.prog 96 #[.int .i64 t, .int .i64 n] w fun e w' => e = .returned (.int .i64 (si t n)) ∧ w = w' := by
  have C := Lib.hid fun m W => clamp_any m W
  have a := cl_ge t
  have b := cl_le t
  have c := cl_ge n
  have d := cl_le n
  go_enter Tryz.func96, Tryz.ntmps96
  go_wp2_with fail
  refine (C.out _ _).mono ?_
  rintro e w1 ⟨rfl, rfl⟩
  go_wp2_with fail
  refine (C.out _ _).mono ?_
  rintro e w1 ⟨rfl, rfl⟩
  go_wp2_with fail
  go_ret
  exact ⟨rfl, rfl⟩
/-- A deed's address. -/
def nr (n : Int) : Int := 167772160 + n % 64
/-- Within so many ticks of now. -/
def wi (now t n : Int) : Bool := decide (0 ≤ si now t) && decide (si now t < n)
/-- A choice. -/
structure Cf where
  a : Int
  b : Int
  c : Int
  d : Int
  e : Int
  f : Int
  g : Int
  h : Int
  i : Int
def cfl (x : Cf) : List Value := [.int .i64 x.a, .int .i64 x.b, .int .i64 x.c, .int .i64 x.d, .int .i64 x.e, .int .i64 x.f, .int .i64 x.g, .int .i64 x.h, .int .i64 x.i]
def cfv (x : Cf) : Value := .agg #[.int .i64 x.a, .int .i64 x.b, .int .i64 x.c, .int .i64 x.d, .int .i64 x.e, .int .i64 x.f, .int .i64 x.g, .int .i64 x.h, .int .i64 x.i]
def Cfx (x : Cf) : Obj := .cells #[.int .i64 x.a, .int .i64 x.b, .int .i64 x.c, .int .i64 x.d, .int .i64 x.e, .int .i64 x.f, .int .i64 x.g, .int .i64 x.h, .int .i64 x.i] 27
def zf : Cf := ⟨0, 0, 0, 0, 0, 0, 0, 0, 0⟩
/-- A variable with a choice. -/
structure Cm (W : World) (b : Nat) (x : Cf) : Prop where
  lt : b < W.heap.size
  c0 : W.cell? ⟨b, 0, none⟩ = some (.int .i64 x.a)
  c1 : W.cell? ⟨b, 1, none⟩ = some (.int .i64 x.b)
  c2 : W.cell? ⟨b, 2, none⟩ = some (.int .i64 x.c)
  c3 : W.cell? ⟨b, 3, none⟩ = some (.int .i64 x.d)
  c4 : W.cell? ⟨b, 4, none⟩ = some (.int .i64 x.e)
  c5 : W.cell? ⟨b, 5, none⟩ = some (.int .i64 x.f)
  c6 : W.cell? ⟨b, 6, none⟩ = some (.int .i64 x.g)
  c7 : W.cell? ⟨b, 7, none⟩ = some (.int .i64 x.h)
  c8 : W.cell? ⟨b, 8, none⟩ = some (.int .i64 x.i)
theorem cm_box (w : World) (x : Cf) : Cm (w.alloc (Cfx x)) w.heap.size x := ⟨by simp, by simp [Cfx], by simp [Cfx], by simp [Cfx], by simp [Cfx], by simp [Cfx], by simp [Cfx], by simp [Cfx], by simp [Cfx], by simp [Cfx]⟩
theorem Cm.keep {W W' : World} {b B : Nat} {x : Cf} (h : Cm W b x) (hb : Below B W W') (hB : b < B) (hs : W.heap.size ≤ W'.heap.size) : Cm W' b x :=
  ⟨Nat.lt_of_lt_of_le h.lt hs, by rw [hb.cell (p := ⟨b, 0, none⟩) hB]; exact h.c0, by rw [hb.cell (p := ⟨b, 1, none⟩) hB]; exact h.c1, by rw [hb.cell (p := ⟨b, 2, none⟩) hB]; exact h.c2, by rw [hb.cell (p := ⟨b, 3, none⟩) hB]; exact h.c3, by rw [hb.cell (p := ⟨b, 4, none⟩) hB]; exact h.c4, by rw [hb.cell (p := ⟨b, 5, none⟩) hB]; exact h.c5, by rw [hb.cell (p := ⟨b, 6, none⟩) hB]; exact h.c6, by rw [hb.cell (p := ⟨b, 7, none⟩) hB]; exact h.c7, by rw [hb.cell (p := ⟨b, 8, none⟩) hB]; exact h.c8⟩
theorem Cm.below {W W' : World} {b : Nat} {x : Cf} (h : Cm W b x) (hb : Below W.heap.size W W') : Cm W' b x := h.keep hb h.lt hb.size
theorem Cm.at {W : World} {b : Nat} {x : Cf} (h : Cm W b x) : ∀ j v, (cfl x)[j]? = some v → W.cell? ((⟨b, 0, none⟩ : Addr).add j) = some v := by
  intro j v hv
  rw [Addr.add_mid, Nat.zero_add]
  match j, hv with
  | 0, hv => simp [cfl] at hv; subst hv; exact h.c0
  | 1, hv => simp [cfl] at hv; subst hv; exact h.c1
  | 2, hv => simp [cfl] at hv; subst hv; exact h.c2
  | 3, hv => simp [cfl] at hv; subst hv; exact h.c3
  | 4, hv => simp [cfl] at hv; subst hv; exact h.c4
  | 5, hv => simp [cfl] at hv; subst hv; exact h.c5
  | 6, hv => simp [cfl] at hv; subst hv; exact h.c6
  | 7, hv => simp [cfl] at hv; subst hv; exact h.c7
  | 8, hv => simp [cfl] at hv; subst hv; exact h.c8
  | j + 9, hv => simp [cfl] at hv
theorem size27 : (Tryz.prog.info? 27).map (·.size) = some 9 := by kernel_rfl
theorem load27 {w : World} {y : Addr} {x : Cf} (h : ∀ j v, (cfl x)[j]? = some v → w.cell? (y.add j) = some v) : (Instr.loadAt 27 (.pointer (some y))).run Tryz.prog w = .ok (cfv x) w := by
  have hl' : (loadCells y 9).run Tryz.prog w = .ok (cfl x).toArray w := run_loadCells_list (P := Tryz.prog) w y (cfl x) h
  obtain ⟨i, hi, hs⟩ := Option.map_eq_some_iff.1 size27
  have hg : (isAgg 27).run Tryz.prog w = .ok true w := by
    unfold isAgg
    simp only [Sem.run_bind, run_underlying Tryz.underlying27, Result.andThen_ok, Sem.run_pure]
  have hz : (Go.sizeOf 27).run Tryz.prog w = .ok 9 w := by
    rw [← hs]
    simp [Go.sizeOf, typeInfo, hi]
  simp only [Instr.loadAt, Instr.sureAddr, loadVar, Sem.run_bind, Sem.run_pure, Result.andThen_ok, hg, hz, hl', if_true]
  rfl
theorem at_load27 {ops : Array Oper} {rest : List Oper} {op : Oper} {a : Act} {w : World} {Q : Exit → Act → World → Prop} (x : Operand) (hgd : op.guard = none) (ho : op.op = .load 27 x) (y : Addr) (z : Cf) (hx : a.eval x = .pointer (some y)) (hr : ∀ j v, (cfl z)[j]? = some v → w.cell? (y.add j) = some v)
    (h : wpList Tryz.prog ops Q rest (a.put op.dst (.agg #[.int .i64 z.a, .int .i64 z.b, .int .i64 z.c, .int .i64 z.d, .int .i64 z.e, .int .i64 z.f, .int .i64 z.g, .int .i64 z.h, .int .i64 z.i])) w) : wpList Tryz.prog ops Q (op :: rest) a w :=
  wpList_plain hgd fun _ hK => by
    unfold Oper.wp execOp
    simp only [ho, hx, Sem.run_bind, Sem.run_pure, Result.andThen_ok, load27 hr]
    exact hK _ _ h

theorem nine {k : Nat} (h : k < 9) : k = 0 ∨ k = 1 ∨ k = 2 ∨ k = 3 ∨ k = 4 ∨ k = 5 ∨ k = 6 ∨ k = 7 ∨ k = 8 := by omega
theorem cfl_one (x : Cf) : (cfl x).toArray.all (·.oneCell') = true := by simp [cfl, Value.oneCell']
/-- A choice in a block that may be written. -/
def Cb (w : World) (b : Nat) (x : Cf) : Prop := w.rangeAt b 0 (cfl x) ∧ w.there b 0 9
theorem Cb.cm {w : World} {b : Nat} {x : Cf} (h : Cb w b x) : Cm w b x := by
  have key : ∀ j v, (cfl x)[j]? = some v → w.cell? ⟨b, j, none⟩ = some v := fun j v hv => by
    have := h.1 j v hv
    rwa [Nat.zero_add] at this
  have h0 := key 0 _ rfl
  exact ⟨World.block_lt_of_cell? _ _ h0, h0, key 1 _ rfl, key 2 _ rfl, key 3 _ rfl, key 4 _ rfl, key 5 _ rfl, key 6 _ rfl, key 7 _ rfl, key 8 _ rfl⟩
theorem cb_box (w : World) (x : Cf) : Cb (w.alloc (Cfx x)) w.heap.size x := by
  have h : (w.alloc (Cfx x)).heap[w.heap.size]? = some (Cfx x) := heap_alloc_new w _
  have e : ∀ j, (w.alloc (Cfx x)).cell? ⟨w.heap.size, j, none⟩ = _ := fun j => cell_of_row _ _ _ _ _ _ h
  refine ⟨fun j v hv => ?_, fun j hj => ⟨?_, ?_⟩⟩
  · rw [e, Nat.zero_add, ← hv]
    simp [cfl]
  · rw [e, Nat.zero_add]
    rcases nine hj with rfl | rfl | rfl | rfl | rfl | rfl | rfl | rfl | rfl <;> rfl
  · unfold World.frozen?
    rw [h]
    simp [Cfx]
theorem Cb.put {w : World} {b : Nat} {x : Cf} (h : Cb w b x) (y : Cf) : Cb (w.setCells b 0 (cfl y)) b y :=
  ⟨World.rangeAt_setCells_same w b 0 (cfl y) h.2, World.there_setCells h.2 b 0 (cfl y)⟩
theorem below_put {B b : Nat} {w0 : World} (hb : B ≤ b) : ∀ (vs : List Value) (o : Nat) (w : World), Below B w0 w → Below B w0 (w.setCells b o vs)
  | [], _, _, h => h
  | v :: r, o, w, h => below_put hb r (o + 1) _ (h.setCell (by exact hb) v)
theorem results_cell {P : Program} {fn : Func} {p : Tmp} {ty : TypeId} (h : fn.results = #[.cell p ty]) (tmps : Array Value) (w : World) (x : Addr) (v : Value) (hp : tmps.getD p undef = .pointer (some x)) (hl : (loadVar ty x).run P w = .ok v w) :
    (results fn tmps).run P w = .ok v w := by
  have hp' : tmps[p]?.getD undef = .pointer (some x) := by simpa using hp
  simp [results, h, hp', asAddr, hl]
theorem loadv27 {w : World} {b : Nat} {x : Cf} (h : Cb w b x) : (loadVar 27 ⟨b, 0, none⟩).run Tryz.prog w = .ok (cfv x) w := run_loadVar_mid w b 0 27 (cfl x) _ h.1 Tryz.underlying27 rfl size27
theorem at_store27 {ops : Array Oper} {rest : List Oper} {o : Oper} {a : Act} {w : World} {Q : Exit → Act → World → Prop} (x y : Operand) (b : Nat) (p q : Cf) (H : Cb w b p) (hgd : o.guard = none) (ho : o.op = .store 27 x y) (hx : a.eval x = .pointer (some ⟨b, 0, none⟩)) (hy : a.eval y = cfv q)
    (h : ∀ w', Hid (Cb w' b q) → Hid (∀ B, B ≤ b → Below B w w') → wpList Tryz.prog ops Q rest (a.put o.dst undef) w') : wpList Tryz.prog ops Q (o :: rest) a w :=
  wpList_store_mid hgd 27 x y ho b 0 (cfl q).toArray hx hy H.2 size27 (cfl_one q) (h _ (H.put q) (fun _ hB => below_put hB _ _ _ (Below.refl _ _)))

/-- Nine bytes; the choice that they mean. -/
structure Hc where
  (a b c d e f g h i : Int)
structure Hc.Ok (y : Hc) : Prop where
  a : 0 ≤ y.a ∧ y.a < 256
  b : 0 ≤ y.b ∧ y.b < 256
  c : 0 ≤ y.c ∧ y.c < 256
  d : 0 ≤ y.d ∧ y.d < 256
  e : 0 ≤ y.e ∧ y.e < 256
  f : 0 ≤ y.f ∧ y.f < 256
  g : 0 ≤ y.g ∧ y.g < 256
  h : 0 ≤ y.h ∧ y.h < 256
  i : 0 ≤ y.i ∧ y.i < 256
def hv (y : Hc) : Value := .agg #[.int .u8 y.a, .int .u8 y.b, .int .u8 y.c, .int .u8 y.d, .int .u8 y.e, .int .u8 y.f, .int .u8 y.g, .int .u8 y.h, .int .u8 y.i]
def hl (y : Hc) : List Value := [.int .u8 y.a, .int .u8 y.b, .int .u8 y.c, .int .u8 y.d, .int .u8 y.e, .int .u8 y.f, .int .u8 y.g, .int .u8 y.h, .int .u8 y.i]
def Hcx (y : Hc) : Obj := .cells #[.int .u8 y.a, .int .u8 y.b, .int .u8 y.c, .int .u8 y.d, .int .u8 y.e, .int .u8 y.f, .int .u8 y.g, .int .u8 y.h, .int .u8 y.i] 23
def ch (y : Hc) : Cf := ⟨1 + y.a % 30, 1 + y.a % 30 + y.b % 60, 1 + y.c % 6, 1 + y.d % 20, 1 + y.e % 9, 1 + y.f % 6, y.g % 4, 1 + y.h % 40, y.i % 50⟩
set_option maxRecDepth 100000 in
set_option maxHeartbeats 2000000 in
theorem choice_any (y : Hc) (w : World) (h : y.Ok) : Calls Tryz.prog 12 #[hv y] w fun e w' => e = .returned (cfv (ch y)) ∧ Below w.heap.size w w' := by
  have P0 := Lib.hid (cb_box (w.alloc (Hcx y)) zf)
  have B0 := Lib.hid (((Below.refl w.heap.size w).alloc (Nat.le_refl _) (Hcx y)).alloc (by simp) (Cfx zf))
  rw [World.size_alloc] at P0
  obtain ⟨⟨a0, a1⟩, ⟨b0, b1⟩, ⟨c0, c1⟩, ⟨d0, d1⟩, ⟨e0, e1⟩, ⟨f0, f1⟩, ⟨g0, g1⟩, ⟨h0, h1⟩, ⟨i0, i1⟩⟩ := h
  unfold hv
  go_enter Tryz.func12, Tryz.ntmps12
  go_wp2_with (refine at_store27 _ _ _ zf (ch y) P0.out rfl rfl rfl rfl ?_; intro w2 P2 B2)
  refine bodyPost_ret (results_cell rfl _ _ _ _ rfl (loadv27 P2.out)) rfl ?_
  exact ⟨rfl, B0.out.trans (B2.out _ (by omega))⟩

end Go.Proofs.YtilneflfeegnfaaGreat

/-
  Cases, deeds and nine bytes in a variable of one's own; cells of a row's elements. Conditions: bytes are bytes.
-/
set_option linter.unusedSimpArgs false
set_option linter.unusedVariables false
namespace Go.Proofs.YtilneflfeegnfaaGreat
open Go.RowKit

theorem cells_of37 (b : Nat) : ∀ (us : List Value) (o : Nat) (w : World) (k : Nat), k ≠ b → (w.setCells b o us).heap[k]? = w.heap[k]?
  | [], _, _, _, _ => rfl
  | u :: r, o, w, k, h => (cells_of37 b r (o + 1) _ k h).trans (heap_setCell_other w ⟨b, o, none⟩ k u h)
theorem size23 : (Tryz.prog.info? 23).map (·.size) = some 9 := by kernel_rfl
theorem run_size23 (W : World) : (Go.sizeOf 23).run Tryz.prog W = .ok 9 W := by
  obtain ⟨i, hi, hs⟩ := Option.map_eq_some_iff.1 size23
  rw [← hs]
  simp [Go.sizeOf, typeInfo, hi]
theorem load23 {w : World} {y : Addr} {x : Hc} (h : ∀ j v, (hl x)[j]? = some v → w.cell? (y.add j) = some v) : (Instr.loadAt 23 (.pointer (some y))).run Tryz.prog w = .ok (.agg (hl x).toArray) w := by
  have hl' : (loadCells y 9).run Tryz.prog w = .ok (hl x).toArray w := run_loadCells_list (P := Tryz.prog) w y (hl x) h
  have hg : (isAgg 23).run Tryz.prog w = .ok true w := by
    unfold isAgg
    simp only [Sem.run_bind, run_underlying Tryz.underlying23, Result.andThen_ok, Sem.run_pure]
  simp only [Instr.loadAt, Instr.sureAddr, loadVar, Sem.run_bind, Sem.run_pure, Result.andThen_ok, hg, run_size23, hl', if_true]
theorem at_load23 {ops : Array Oper} {rest : List Oper} {op : Oper} {a : Act} {w : World} {Q : Exit → Act → World → Prop} (x : Operand) (hgd : op.guard = none) (ho : op.op = .load 23 x) (y : Addr) (z : Hc) (hx : a.eval x = .pointer (some y)) (hr : ∀ j v, (hl z)[j]? = some v → w.cell? (y.add j) = some v)
    (h : wpList Tryz.prog ops Q rest (a.put op.dst (.agg #[.int .u8 z.a, .int .u8 z.b, .int .u8 z.c, .int .u8 z.d, .int .u8 z.e, .int .u8 z.f, .int .u8 z.g, .int .u8 z.h, .int .u8 z.i])) w) : wpList Tryz.prog ops Q (op :: rest) a w :=
  wpList_plain hgd fun _ hK => by
    unfold Oper.wp execOp
    simp only [ho, hx, Sem.run_bind, Sem.run_pure, Result.andThen_ok, load23 hr]
    exact hK _ _ h
section
variable {ops : Array Oper} {rest : List Oper} {o : Oper} {a : Act} {C : World → Prop} {Q : Act → Prop}
theorem quiet_load23 (x : Operand) (y : Addr) (p : Hc) (hr : ∀ W, C W → ∀ j v, (hl p)[j]? = some v → W.cell? (y.add j) = some v) (hw : Region.wanted o (yielded ops a.tmps) = true) (ho : o.op = .load 23 x) (hx : a.eval x = .pointer (some y)) (h : wpQuiet Tryz.prog ops C Q rest (a.put o.dst (.agg #[.int .u8 p.a, .int .u8 p.b, .int .u8 p.c, .int .u8 p.d, .int .u8 p.e, .int .u8 p.f, .int .u8 p.g, .int .u8 p.h, .int .u8 p.i]))) : wpQuiet Tryz.prog ops C Q (o :: rest) a :=
  BigFrame.wpQuiet_want hw fun K hK => ⟨.agg #[.int .u8 p.a, .int .u8 p.b, .int .u8 p.c, .int .u8 p.d, .int .u8 p.e, .int .u8 p.f, .int .u8 p.g, .int .u8 p.h, .int .u8 p.i], fun W hC => by
    unfold Oper.quietAt execOp
    simp only [ho, hx, Sem.run_bind, Sem.run_pure, Result.andThen_ok, load23 (hr W hC)]
    exact ⟨rfl, rfl⟩, hK _ h⟩
end

theorem hc_box (w : World) (x : Hc) : ∀ j v, (hl x)[j]? = some v → (w.alloc (Hcx x)).cell? ((⟨w.heap.size, 0, none⟩ : Addr).add j) = some v := by
  intro j v hv
  rw [Addr.add_mid, Nat.zero_add]
  match j, hv with
  | 0, hv => simp [hl] at hv; subst hv; simp [Hcx]
  | 1, hv => simp [hl] at hv; subst hv; simp [Hcx]
  | 2, hv => simp [hl] at hv; subst hv; simp [Hcx]
  | 3, hv => simp [hl] at hv; subst hv; simp [Hcx]
  | 4, hv => simp [hl] at hv; subst hv; simp [Hcx]
  | 5, hv => simp [hl] at hv; subst hv; simp [Hcx]
  | 6, hv => simp [hl] at hv; subst hv; simp [Hcx]
  | 7, hv => simp [hl] at hv; subst hv; simp [Hcx]
  | 8, hv => simp [hl] at hv; subst hv; simp [Hcx]
  | j + 9, hv => simp [hl] at hv
theorem Rw.grownN {α : Type} {E : El α} {w w' : World} {A : Option Addr} {xs : List α} {g B : Nat} (h : Rw E w A xs) (hg : w.grownBy w' (some g)) (hb : ∀ y, A = some y → 0 < xs.length → y.block < B) (hB : B ≤ g) : Rw E w' A xs := by
  rcases Nat.eq_zero_or_pos xs.length with h0 | h0
  · rw [List.eq_nil_of_length_eq_zero h0]
    exact Rw.nil _ _
  · refine h.grown hg fun y hy e => ?_
    injection e with e
    have := hb y hy h0
    omega
end Go.Proofs.YtilneflfeegnfaaGreat

/-
  The contracts of cases.moved, cases.moveAt, cases.step, and of Approve, Reject, Done and Cancel. Conditions: the row lies in memory, and has up tg 900 cases.
-/
set_option linter.unusedSimpArgs false
set_option linter.unusedVariables false
namespace Go.Proofs.YtilneflfeegnfaaGreat
open Go.RowKit

theorem grown_trans {w w1 w2 : World} {r r' : Option Nat} (h : w.grownBy w1 r) (g : w1.grownBy w2 r') (hr : ∀ k, r' = some k → some k = r ∨ w.heap.size ≤ k) : w.grownBy w2 r :=
  ⟨g.os.trans h.os, g.tape.trans h.tape, g.output.trans h.output, Nat.le_trans h.size g.size, fun k hk hne => (g.block k (Nat.lt_of_lt_of_le hk h.size) (fun e => by
    rcases hr k e.symm with e' | e'
    · exact hne e'
    · omega)).trans (h.block k hk hne)⟩
theorem grown_below {w w' : World} (h : Below w.heap.size w w') (r : Option Nat) : w.grownBy w' r := ⟨h.os, h.tape, h.output, h.size, fun k hk _ => h.block k hk⟩
theorem own_slice {α : Type} {E : El α} {w : World} {base : Nat} {e : TypeId} {A : Option Addr} {n m c : Nat} {xs : List α} (h : w.ownsRow base e E.N (.slice A m c) n (E.cs xs)) (hn : xs.length ≤ 140737488355328) : Rw E w A xs := by
  obtain ⟨A', c', e1, -, -, -, hR, -⟩ := own_rw h hn
  injection e1 with e1
  subst e1
  exact hR
theorem calls_fx {f : FuncId} {args : Array Value} {W : World} {v : Value} {Φ : List (Value → World → Prop)} {i : Nat} (h : Calls Tryz.prog f args W fun e w' => e = .returned v ∧ Below W.heap.size W w') (hi : fAt Φ i = fx v) :
    Calls Tryz.prog f args W fun e w' => ∃ v, e = .returned v ∧ Below W.heap.size W w' ∧ fAt Φ i v w' := h.mono fun _ _ ⟨he, hb⟩ => ⟨v, he, hb, by rw [hi]; exact rfl⟩
end Go.Proofs.YtilneflfeegnfaaGreat

/-
  What keeps a list of cases right: a case more, a stage further, and ticks; what a deed brings. No condition.
-/
set_option linter.unusedSimpArgs false
set_option linter.unusedVariables false
namespace Go.Proofs.YtilneflfeegnfaaGreat
theorem cl_iff (t : Int) : t = cl t ↔ 0 ≤ t ∧ t ≤ 1099511627776 := by
  constructor
  · intro h; rw [h]; exact ⟨cl_ge t, cl_le t⟩
  · rintro ⟨h0, h1⟩; exact (cl_in h0 h1).symm
open Go.RowKit

end Go.Proofs.YtilneflfeegnfaaGreat

/-
  Questions, packets and deeds as plain data and in memory, and rows of them; what a load and a comparison of one do. No condition.
-/
set_option linter.unusedSimpArgs false
set_option linter.unusedVariables false
namespace Go.Proofs.YtilneflfeegnfaaGreat
open Go.RowKit

section
variable {α : Type} {E : El α}
end

section
variable {ops : Array Oper} {rest : List Oper} {o : Oper} {a : Act} {C : World → Prop} {Q : Act → Prop}
end

section
variable {ops : Array Oper} {rest : List Oper} {o : Oper} {a : Act} {C : World → Prop} {Q : Act → Prop}
end

section
variable {ops : Array Oper} {rest : List Oper} {o : Oper} {a : Act} {C : World → Prop} {Q : Act → Prop}
end

section
variable {ops : Array Oper} {rest : List Oper} {o : Oper} {a : Act} {C : World → Prop} {Q : Act → Prop}
end
section
variable {ops : Array Oper} {rest : List Oper} {o : Oper} {a : Act} {w : World} {Q : Exit → Act → World → Prop}
end
/-- Whether two numbers are the same. -/
def eq6 (a0 a1 a2 a3 a4 a5 b0 b1 b2 b3 b4 b5 : Int) : Bool := decide (a0 = b0 ∧ a1 = b1 ∧ a2 = b2 ∧ a3 = b3 ∧ a4 = b4 ∧ a5 = b5)

theorem run_each {P : Program} {W : World} (f : Nat → Bool) (body : Nat → Option Bool × Unit → Sem (ForInStep (Option Bool × Unit))) :
    ∀ ks : List Nat, (∀ k ∈ ks, (body k (none, ())).run P W = .ok (if f k = true then ForInStep.yield (none, ()) else ForInStep.done (some false, ())) W) →
      (forIn ks (none, ()) body).run P W = .ok (if ks.all f = true then (none, ()) else (some false, ())) W
  | [], _ => by simp [Sem.run_pure]
  | k :: ks, h => by
    have ih := run_each f body ks (fun j hj => h j (List.mem_cons_of_mem _ hj))
    rw [List.forIn_cons, Sem.run_bind, h k (List.mem_cons_self ..), Result.andThen_ok]
    cases hk : f k
    · simp [hk, Sem.run_pure]
    · simp only [if_true]
      rw [ih]
      simp [hk]

theorem run_eq6 (a0 a1 a2 a3 a4 a5 b0 b1 b2 b3 b4 b5 : Int) (d : Nat) (W : World) :
    (Op.equalIn (d + 2) 42 (.agg #[.int .u8 a0, .int .u8 a1, .int .u8 a2, .int .u8 a3, .int .u8 a4, .int .u8 a5]) (.agg #[.int .u8 b0, .int .u8 b1, .int .u8 b2, .int .u8 b3, .int .u8 b4, .int .u8 b5])).run Tryz.prog W = .ok (eq6 a0 a1 a2 a3 a4 a5 b0 b1 b2 b3 b4 b5) W := by
  show (Op.equalIn (d + 1 + 1) 42 _ _).run Tryz.prog W = _
  have he : ∀ (x y : Int), (Op.equalIn (d + 1) 5 (.int .u8 x) (.int .u8 y)).run Tryz.prog W = .ok (x == y) W := fun (x y : Int) => run_equalIn_int (P := Tryz.prog) W d 5 .u8 .u8 x y Tryz.underlying5
  have hs : (Go.sizeOf 5).run Tryz.prog W = .ok 1 W := by simp [go_sem]
  have e1 : ∀ (xs : Array Value) (k : Nat) (x : Int), xs[k]? = some (.int .u8 x) → (part 5 xs (k * 1)).run Tryz.prog W = .ok (.int .u8 x) W := by
    intro xs k x h
    simp [part, go_sem, h]
  unfold Op.equalIn
  simp only [Sem.run_bind, run_underlying Tryz.underlying42, Result.andThen_ok, hs]
  have hl : List.range' 0 6 1 = [0, 1, 2, 3, 4, 5] := rfl
  rw [Std.Legacy.Range.forIn_eq_forIn_range']
  simp only [Std.Legacy.Range.size]
  simp only [Nat.sub_zero, Nat.add_one_sub_one, Nat.reduceAdd, Nat.reduceDiv, hl]
  have ae0 := e1 #[.int .u8 a0, .int .u8 a1, .int .u8 a2, .int .u8 a3, .int .u8 a4, .int .u8 a5] 0 a0 rfl
  have ae1 := e1 #[.int .u8 a0, .int .u8 a1, .int .u8 a2, .int .u8 a3, .int .u8 a4, .int .u8 a5] 1 a1 rfl
  have ae2 := e1 #[.int .u8 a0, .int .u8 a1, .int .u8 a2, .int .u8 a3, .int .u8 a4, .int .u8 a5] 2 a2 rfl
  have ae3 := e1 #[.int .u8 a0, .int .u8 a1, .int .u8 a2, .int .u8 a3, .int .u8 a4, .int .u8 a5] 3 a3 rfl
  have ae4 := e1 #[.int .u8 a0, .int .u8 a1, .int .u8 a2, .int .u8 a3, .int .u8 a4, .int .u8 a5] 4 a4 rfl
  have ae5 := e1 #[.int .u8 a0, .int .u8 a1, .int .u8 a2, .int .u8 a3, .int .u8 a4, .int .u8 a5] 5 a5 rfl
  have be0 := e1 #[.int .u8 b0, .int .u8 b1, .int .u8 b2, .int .u8 b3, .int .u8 b4, .int .u8 b5] 0 b0 rfl
  have be1 := e1 #[.int .u8 b0, .int .u8 b1, .int .u8 b2, .int .u8 b3, .int .u8 b4, .int .u8 b5] 1 b1 rfl
  have be2 := e1 #[.int .u8 b0, .int .u8 b1, .int .u8 b2, .int .u8 b3, .int .u8 b4, .int .u8 b5] 2 b2 rfl
  have be3 := e1 #[.int .u8 b0, .int .u8 b1, .int .u8 b2, .int .u8 b3, .int .u8 b4, .int .u8 b5] 3 b3 rfl
  have be4 := e1 #[.int .u8 b0, .int .u8 b1, .int .u8 b2, .int .u8 b3, .int .u8 b4, .int .u8 b5] 4 b4 rfl
  have be5 := e1 #[.int .u8 b0, .int .u8 b1, .int .u8 b2, .int .u8 b3, .int .u8 b4, .int .u8 b5] 5 b5 rfl
  rw [run_each (fun k => [a0, a1, a2, a3, a4, a5].getD k 0 == [b0, b1, b2, b3, b4, b5].getD k 0) _ [0, 1, 2, 3, 4, 5] (by
    intro k hk
    simp only [List.mem_cons, List.not_mem_nil, or_false] at hk
    rcases hk with rfl | rfl | rfl | rfl | rfl | rfl
    · simp only [Sem.run_bind, ae0, be0, he, Result.andThen_ok, Sem.run_ite, Sem.run_pure, List.getD_cons_zero]
      cases (a0 == b0) <;> rfl
    · simp only [Sem.run_bind, ae1, be1, he, Result.andThen_ok, Sem.run_ite, Sem.run_pure, List.getD_cons_zero, List.getD_cons_succ]
      cases (a1 == b1) <;> rfl
    · simp only [Sem.run_bind, ae2, be2, he, Result.andThen_ok, Sem.run_ite, Sem.run_pure, List.getD_cons_zero, List.getD_cons_succ]
      cases (a2 == b2) <;> rfl
    · simp only [Sem.run_bind, ae3, be3, he, Result.andThen_ok, Sem.run_ite, Sem.run_pure, List.getD_cons_zero, List.getD_cons_succ]
      cases (a3 == b3) <;> rfl
    · simp only [Sem.run_bind, ae4, be4, he, Result.andThen_ok, Sem.run_ite, Sem.run_pure, List.getD_cons_zero, List.getD_cons_succ]
      cases (a4 == b4) <;> rfl
    · simp only [Sem.run_bind, ae5, be5, he, Result.andThen_ok, Sem.run_ite, Sem.run_pure, List.getD_cons_zero, List.getD_cons_succ]
      cases (a5 == b5) <;> rfl), Result.andThen_ok]
  unfold eq6
  simp only [List.all_cons, List.all_nil, List.getD_cons_zero, List.getD_cons_succ, Bool.and_true]
  by_cases h : a0 = b0 ∧ a1 = b1 ∧ a2 = b2 ∧ a3 = b3 ∧ a4 = b4 ∧ a5 = b5
  · obtain ⟨rfl, rfl, rfl, rfl, rfl, rfl⟩ := h
    simp [Sem.run_pure]
  · rw [decide_eq_false h, if_neg (by simpa using h)]
    simp [Sem.run_pure]

section
variable {ops : Array Oper} {rest : List Oper} {o : Oper} {a : Act} {w : World} {Q : Exit → Act → World → Prop}
end
end Go.Proofs.YtilneflfeegnfaaGreat

