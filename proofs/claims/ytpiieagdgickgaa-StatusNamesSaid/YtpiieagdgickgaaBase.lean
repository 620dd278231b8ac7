/-
  A station, a sighting, and rows of them, as plain data and in memory; a choice and a holder that lie in memory; what a load and a comparison of one do. No condition.
-/
import Derived.Test.YtpiieagdgickgaaProg
import Derived.WalkKit
import Derived.Lib.Strings
import Derived.WalkLawsBesides
import Derived.BigQuiet
import Derived.Deep.QuietTactic
import Derived.Deep.MidRow
import Derived.Deep.CutRange
import Derived.Deep.LoopGhost
import Derived.Deep.Slices
import Derived.Deep.OwnRows
import Derived.Deep.AppendLies
import Derived.Laws.OwnMore
import Derived.Laws.AppendOwn
import Derived.Laws.ResultCell
import Derived.Laws.BitsAllLaws
import Derived.Maps.AppendAt
import Derived.RegionTactic
import Derived.OwnWalk
import Derived.Lib.Hide
import Derived.Lib.MinMax
import Derived.Lib.QuietBelow
import Derived.StillTailTactics
set_option linter.unusedSimpArgs false
set_option linter.unusedVariables false
namespace Go.Proofs.Ytpiieagdgickgaa
open Go.RowKit

theorem ret_bool {a b : Bool} (h : a = b) : Ending.returned (.bool a) = .returned (.bool b) := by rw [h]
theorem ret_int {k : IntKind} {a b : Int} (h : a = b) : Ending.returned (.int k a) = .returned (.int k b) := by rw [h]
theorem bdrewN {B : Nat} {a w : World} (h : Below B a w) (n : Nat) : Below B a (w.drewN n) := h.trans ⟨rfl, rfl, rfl, Nat.le_refl _, fun _ _ => rfl⟩
theorem hx_below {w : World} (o : Obj) {w1 : World} (h : Below (w.alloc o).heap.size (w.alloc o) w1) : Below w.heap.size w w1 :=
  ((Below.refl _ w).alloc (Nat.le_refl _) o).trans (h.mono (by simp))
theorem i64_nat {j : Nat} (h : j ≤ 140737488355328) : IntKind.i64.wrap (j : Int) = (j : Int) := by rw [IntKind.wrap_i64]; omega
theorem add_block (y : Addr) (k : Nat) : (y.add k).block = y.block := by unfold Addr.add; split <;> rfl

/-- What an element of a row is, as cells. -/
structure El (α : Type) where
  cl : α → List Value
  N : Nat
  pos : 0 < N
  len : ∀ x, (cl x).length = N
  one : ∀ x, ∀ u ∈ cl x, u.oneCell' = true
/-- All cells of a row. -/
def El.cs {α : Type} (E : El α) (xs : List α) : List Value := xs.flatMap E.cl
section
variable {α : Type} {E : El α}
theorem cs_append (xs ys : List α) : E.cs (xs ++ ys) = E.cs xs ++ E.cs ys := by simp [El.cs]
theorem cs_nil : E.cs [] = [] := rfl
theorem cs_one (xs : List α) : ∀ u ∈ E.cs xs, u.oneCell' = true := by
  intro u hu
  obtain ⟨r, _, h⟩ := List.mem_flatMap.1 hu
  exact E.one r u h
theorem cs_length (xs : List α) : (E.cs xs).length = xs.length * E.N := by
  induction xs with
  | nil => simp [El.cs]
  | cons x r ih => rw [El.cs, List.flatMap_cons, List.length_append, ← El.cs, ih, E.len, List.length_cons, Nat.succ_mul]; omega
theorem cs_at (xs : List α) : ∀ (q : Nat) (x : α) (j : Nat), xs[q]? = some x → j < E.N → (E.cs xs)[q * E.N + j]? = (E.cl x)[j]? := by
  induction xs with
  | nil => intro q x j h; simp at h
  | cons y r ih =>
    intro q x j h hj
    rw [El.cs, List.flatMap_cons, ← El.cs]
    cases q with
    | zero =>
      simp at h
      subst h
      rw [List.getElem?_append_left (by rw [E.len]; omega)]
      simp
    | succ q =>
      rw [List.getElem?_append_right (by rw [E.len, Nat.succ_mul]; omega), E.len, show (q + 1) * E.N + j - E.N = q * E.N + j by rw [Nat.succ_mul]; omega]
      exact ih q x j (by simpa using h) hj
/-- The elements that a slice's value has, wherever they lie. -/
def Rw (E : El α) (w : World) (A : Option Addr) (xs : List α) : Prop :=
  xs.length ≤ 140737488355328 ∧ ∀ (q : Nat) (x : α), xs[q]? = some x → ∃ y, A = some y ∧ ∀ j v, (E.cl x)[j]? = some v → w.cell? (y.add (q * E.N + j)) = some v
theorem Rw.nil (w : World) (A : Option Addr) : Rw E w A [] := ⟨by simp, fun q x h => by simp at h⟩
theorem Rw.cells_keep {w w' : World} {A : Option Addr} {xs : List α} (h : Rw E w A xs) (hc : ∀ y a v, A = some y → a.block = y.block → w.cell? a = some v → w'.cell? a = some v) : Rw E w' A xs := by
  refine ⟨h.1, fun q x hq => ?_⟩
  obtain ⟨y, hy, hc'⟩ := h.2 q x hq
  exact ⟨y, hy, fun j v hv => hc y _ v hy (add_block _ _) (hc' j v hv)⟩
theorem Rw.below {w w' : World} {A : Option Addr} {xs : List α} (h : Rw E w A xs) (hb : Below w.heap.size w w') : Rw E w' A xs :=
  h.cells_keep fun _ _ _ _ _ hc => (hb.cell (World.block_lt_of_cell? _ _ hc)).trans hc
theorem Rw.belowB {w w' : World} {A : Option Addr} {xs : List α} {B : Nat} (h : Rw E w A xs) (hb : Below B w w') (hB : ∀ y, A = some y → y.block < B) : Rw E w' A xs :=
  h.cells_keep fun y a v hy ha hc => (hb.cell (by rw [ha]; exact hB y hy)).trans hc
theorem Rw.grown {w w' : World} {A : Option Addr} {xs : List α} {row : Option Nat} (h : Rw E w A xs) (hg : w.grownBy w' row) (hne : ∀ x, A = some x → some x.block ≠ row) : Rw E w' A xs :=
  h.cells_keep fun y a v hy ha hc => hg.cell hc (by rw [ha]; exact hne y hy)
theorem Rw.drewN {w : World} {A : Option Addr} {xs : List α} (h : Rw E w A xs) (n : Nat) : Rw E (w.drewN n) A xs := h.below (bdrewN (Below.refl _ _) n)
theorem rw_some {w : World} {A : Option Addr} {xs : List α} (h : Rw E w A xs) (hn : 0 < xs.length) : ∃ y, A = some y := by
  obtain ⟨y, hy, _⟩ := h.2 0 xs[0] (List.getElem?_eq_getElem hn)
  exact ⟨y, hy⟩
theorem rw_none {w : World} {xs : List α} (h : Rw E w none xs) : xs = [] := by
  rcases Nat.eq_zero_or_pos xs.length with h0 | h0
  · exact List.eq_nil_of_length_eq_zero h0
  · obtain ⟨x, hx⟩ := rw_some h h0
    cases hx
theorem Rw.at {w : World} {y : Addr} {xs : List α} (h : Rw E w (some y) xs) {q : Nat} {x : α} (hq : xs[q]? = some x) : ∀ j v, (E.cl x)[j]? = some v → w.cell? ((y.add (q * E.N)).add j) = some v := by
  obtain ⟨y', hy, hc⟩ := h.2 q x hq
  injection hy with hy
  subst hy
  intro j v hv
  rw [Addr.add_add]
  exact hc j v hv
/-- All cells of the row, one behind the other. -/
theorem Rw.cells {w : World} {y : Addr} {xs : List α} (h : Rw E w (some y) xs) : ∀ j u, (E.cs xs)[j]? = some u → w.cell? (y.add j) = some u := by
  intro j u hu
  have hN := E.pos
  have hj : j < xs.length * E.N := by have := (List.getElem?_eq_some_iff.1 hu).1; rwa [cs_length] at this
  have e : j = j / E.N * E.N + j % E.N := by have := Nat.div_add_mod j E.N; rw [Nat.mul_comm] at this; omega
  have hq : j / E.N < xs.length := (Nat.div_lt_iff_lt_mul hN).2 hj
  have hx := List.getElem?_eq_getElem hq
  obtain ⟨y', hy, hc⟩ := h.2 (j / E.N) _ hx
  injection hy with hy
  subst hy
  rw [e, cs_at xs (j / E.N) _ (j % E.N) hx (Nat.mod_lt _ hN)] at hu
  rw [e]
  exact hc _ _ hu
/-- A part of the row. -/
theorem Rw.take {w : World} {A : Option Addr} {xs : List α} (h : Rw E w A xs) (n : Nat) : Rw E w A (xs.take n) := by
  refine ⟨by have := h.1; rw [List.length_take]; omega, fun q x hq => h.2 q x ?_⟩
  rw [List.getElem?_take] at hq
  split at hq
  · exact hq
  · cases hq
theorem Rw.drop {w : World} {y : Addr} {xs : List α} (h : Rw E w (some y) xs) (n : Nat) : Rw E w (some (y.add (n * E.N))) (xs.drop n) := by
  refine ⟨by have := h.1; rw [List.length_drop]; omega, fun q x hq => ?_⟩
  rw [List.getElem?_drop] at hq
  obtain ⟨y', hy, hc⟩ := h.2 (n + q) x hq
  injection hy with hy
  subst hy
  refine ⟨_, rfl, fun j v hv => ?_⟩
  rw [Addr.add_add, show n * E.N + (q * E.N + j) = (n + q) * E.N + j by rw [Nat.add_mul]; omega]
  exact hc j v hv
/-- Where the rest of a row lies. -/
def dA (N : Nat) (A : Option Addr) (c k : Nat) : Option Addr := if c = k then A else A.map (·.add (k * N))
theorem Rw.rest {w : World} {A : Option Addr} {xs : List α} (h : Rw E w A xs) {c : Nat} (hc : xs.length ≤ c) (k : Nat) : Rw E w (dA E.N A c k) (xs.drop k) := by
  unfold dA
  split
  · rename_i e
    rw [List.drop_eq_nil_of_le (by omega)]
    exact Rw.nil _ _
  · cases A with
    | none =>
      rw [rw_none h, List.drop_nil]
      exact Rw.nil _ _
    | some y => exact h.drop k
/-- A row of the call's own reads so. -/
theorem own_rw {w : World} {base : Nat} {e : TypeId} {v : Value} {n : Nat} {xs : List α} (h : w.ownsRow base e E.N v n (E.cs xs)) (hn : xs.length ≤ 140737488355328) : ∃ A cap, v = .slice A xs.length cap ∧ xs.length ≤ cap ∧ cap ≤ maxLen ∧ n = xs.length ∧ Rw E w A xs ∧ (∀ y, A = some y → base ≤ y.block ∧ y.block < w.heap.size) := by
  have hl := h.1
  rw [cs_length] at hl
  have hnx : n = xs.length := (Nat.eq_of_mul_eq_mul_right E.pos hl).symm
  subst hnx
  rcases h.2 with ⟨rfl, h0⟩ | ⟨g, cap, cur, rfl, hb, hg, hle, hm, hs, ht⟩
  · have : xs = [] := List.eq_nil_of_length_eq_zero h0
    subst this
    exact ⟨none, 0, rfl, by simp, by unfold maxLen; omega, rfl, Rw.nil _ _, fun y e => by cases e⟩
  · refine ⟨some ⟨g, 0, none⟩, cap, rfl, hle, hm, rfl, ⟨hn, fun q x hq => ⟨_, rfl, fun j v hv => ?_⟩⟩, fun y e => by injection e with e; subst e; exact ⟨hb, (Array.getElem?_eq_some_iff.1 hg).1⟩⟩
    have hj : j < E.N := by have := (List.getElem?_eq_some_iff.1 hv).1; rwa [E.len] at this
    refine h.cells (g := g) rfl _ _ ?_
    rw [cs_at xs q x j hq hj]
    exact hv
theorem own_keep {w w' : World} {base : Nat} {e : TypeId} {size : Nat} {v : Value} {n : Nat} {xs : List Value} (h : w.ownsRow base e size v n xs) (hb : Below w.heap.size w w') : w'.ownsRow base e size v n xs := by
  refine ⟨h.1, h.2.imp id ?_⟩
  rintro ⟨g, cap, cur, e1, e2, e3, r⟩
  refine ⟨g, cap, cur, e1, e2, ?_, r⟩
  rw [hb.block g (Array.getElem?_eq_some_iff.1 e3).1]
  exact e3
theorem own_base {w : World} {base B : Nat} {e : TypeId} {size : Nat} {v : Value} {n : Nat} {xs : List Value} (h : w.ownsRow base e size v n xs) (hb : B ≤ base) : w.ownsRow B e size v n xs := by
  refine ⟨h.1, h.2.imp id ?_⟩
  rintro ⟨g, cap, cur, e1, e2, e3, r⟩
  exact ⟨g, cap, cur, e1, Nat.le_trans hb e2, e3, r⟩
end

/-- A station. -/
structure Mc where
  b0 : Int
  b1 : Int
  b2 : Int
  b3 : Int
  b4 : Int
  b5 : Int
def zm : Mc := ⟨0, 0, 0, 0, 0, 0⟩
def ml (x : Mc) : List Value := [.int .u8 x.b0, .int .u8 x.b1, .int .u8 x.b2, .int .u8 x.b3, .int .u8 x.b4, .int .u8 x.b5]
def mv (x : Mc) : Value := .agg #[.int .u8 x.b0, .int .u8 x.b1, .int .u8 x.b2, .int .u8 x.b3, .int .u8 x.b4, .int .u8 x.b5]
def Mx (x : Mc) : Obj := .cells #[.int .u8 x.b0, .int .u8 x.b1, .int .u8 x.b2, .int .u8 x.b3, .int .u8 x.b4, .int .u8 x.b5] 35
def eM : El Mc := ⟨ml, 6, by decide, fun _ => rfl, by
  intro x u hu
  simp [ml] at hu
  rcases hu with rfl | rfl | rfl | rfl | rfl | rfl <;> rfl⟩
/-- A sighting. -/
structure Sg where
  f : Int
  m : Mc
  t : Int
def zs : Sg := ⟨0, zm, 0⟩
def sl (x : Sg) : List Value := [.int .i64 x.f, .int .u8 x.m.b0, .int .u8 x.m.b1, .int .u8 x.m.b2, .int .u8 x.m.b3, .int .u8 x.m.b4, .int .u8 x.m.b5, .int .i64 x.t]
def sv (x : Sg) : Value := .agg #[.int .i64 x.f, .int .u8 x.m.b0, .int .u8 x.m.b1, .int .u8 x.m.b2, .int .u8 x.m.b3, .int .u8 x.m.b4, .int .u8 x.m.b5, .int .i64 x.t]
def Sx (x : Sg) : Obj := .cells #[.int .i64 x.f, .int .u8 x.m.b0, .int .u8 x.m.b1, .int .u8 x.m.b2, .int .u8 x.m.b3, .int .u8 x.m.b4, .int .u8 x.m.b5, .int .i64 x.t] 48
def eS : El Sg := ⟨sl, 8, by decide, fun _ => rfl, by
  intro x u hu
  simp [sl] at hu
  rcases hu with rfl | rfl | rfl | rfl | rfl | rfl | rfl | rfl <;> rfl⟩

theorem size48 : (Try.prog.info? 48).map (·.size) = some 8 := by kernel_rfl
theorem load48 {w : World} {y : Addr} {x : Sg} (h : ∀ j v, (sl x)[j]? = some v → w.cell? (y.add j) = some v) : (Instr.loadAt 48 (.pointer (some y))).run Try.prog w = .ok (sv x) w := by
  have hl' : (loadCells y 8).run Try.prog w = .ok (sl x).toArray w := run_loadCells_list (P := Try.prog) w y (sl x) h
  obtain ⟨i, hi, hs⟩ := Option.map_eq_some_iff.1 size48
  have hg : (isAgg 48).run Try.prog w = .ok true w := by
    unfold isAgg
    simp only [Sem.run_bind, run_underlying Try.underlying48, Result.andThen_ok, Sem.run_pure]
  have hz : (Go.sizeOf 48).run Try.prog w = .ok 8 w := by
    rw [← hs]
    simp [Go.sizeOf, typeInfo, hi]
  simp only [Instr.loadAt, Instr.sureAddr, loadVar, Sem.run_bind, Sem.run_pure, Result.andThen_ok, hg, hz, hl', if_true]
  rfl
theorem at_load48 {ops : Array Oper} {rest : List Oper} {op : Oper} {a : Act} {w : World} {Q : Exit → Act → World → Prop} (x : Operand) (hgd : op.guard = none) (ho : op.op = .load 48 x) (y : Addr) (z : Sg) (hx : a.eval x = .pointer (some y)) (hr : ∀ j v, (sl z)[j]? = some v → w.cell? (y.add j) = some v)
    (h : wpList Try.prog ops Q rest (a.put op.dst (.agg #[.int .i64 z.f, .int .u8 z.m.b0, .int .u8 z.m.b1, .int .u8 z.m.b2, .int .u8 z.m.b3, .int .u8 z.m.b4, .int .u8 z.m.b5, .int .i64 z.t])) w) : wpList Try.prog ops Q (op :: rest) a w :=
  wpList_plain hgd fun _ hK => by
    unfold Oper.wp execOp
    simp only [ho, hx, Sem.run_bind, Sem.run_pure, Result.andThen_ok, load48 hr]
    exact hK _ _ h
theorem size35 : (Try.prog.info? 35).map (·.size) = some 6 := by kernel_rfl
theorem load35 {w : World} {y : Addr} {x : Mc} (h : ∀ j v, (ml x)[j]? = some v → w.cell? (y.add j) = some v) : (Instr.loadAt 35 (.pointer (some y))).run Try.prog w = .ok (mv x) w := by
  have hl' : (loadCells y 6).run Try.prog w = .ok (ml x).toArray w := run_loadCells_list (P := Try.prog) w y (ml x) h
  obtain ⟨i, hi, hs⟩ := Option.map_eq_some_iff.1 size35
  have hg : (isAgg 35).run Try.prog w = .ok true w := by
    unfold isAgg
    simp only [Sem.run_bind, run_underlying Try.underlying35, Result.andThen_ok, Sem.run_pure]
  have hz : (Go.sizeOf 35).run Try.prog w = .ok 6 w := by
    rw [← hs]
    simp [Go.sizeOf, typeInfo, hi]
  simp only [Instr.loadAt, Instr.sureAddr, loadVar, Sem.run_bind, Sem.run_pure, Result.andThen_ok, hg, hz, hl', if_true]
  rfl
theorem at_load35 {ops : Array Oper} {rest : List Oper} {op : Oper} {a : Act} {w : World} {Q : Exit → Act → World → Prop} (x : Operand) (hgd : op.guard = none) (ho : op.op = .load 35 x) (y : Addr) (z : Mc) (hx : a.eval x = .pointer (some y)) (hr : ∀ j v, (ml z)[j]? = some v → w.cell? (y.add j) = some v)
    (h : wpList Try.prog ops Q rest (a.put op.dst (.agg #[.int .u8 z.b0, .int .u8 z.b1, .int .u8 z.b2, .int .u8 z.b3, .int .u8 z.b4, .int .u8 z.b5])) w) : wpList Try.prog ops Q (op :: rest) a w :=
  wpList_plain hgd fun _ hK => by
    unfold Oper.wp execOp
    simp only [ho, hx, Sem.run_bind, Sem.run_pure, Result.andThen_ok, load35 hr]
    exact hK _ _ h
def eq6 (a0 a1 a2 a3 a4 a5 b0 b1 b2 b3 b4 b5 : Int) : Bool := decide (a0 = b0 ∧ a1 = b1 ∧ a2 = b2 ∧ a3 = b3 ∧ a4 = b4 ∧ a5 = b5)
theorem run_each {P : Program} {W : World} (f : Nat → Bool) (body : Nat → Option Bool × Unit → Sem (ForInStep (Option Bool × Unit))) :
    ∀ ks : List Nat, (∀ k ∈ ks, (body k (none, ())).run P W = .ok (if f k = true then ForInStep.yield (none, ()) else ForInStep.done (some false, ())) W) →
      (forIn ks (none, ()) body).run P W = .ok (if ks.all f = true then (none, ()) else (some false, ())) W
  | [], _ => by simp [Sem.run_pure]
  | k :: ks, h => by
    have ih := run_each f body ks (fun j hj => h j (List.mem_cons_of_mem _ hj))
    rw [List.forIn_cons, Sem.run_bind, h k (List.mem_cons_self ..), Result.andThen_ok]
    cases hk : f k
    · simp [hk, Sem.run_pure]
    · simp only [if_true]
      rw [ih]
      simp [hk]

theorem run_eq6 (a0 a1 a2 a3 a4 a5 b0 b1 b2 b3 b4 b5 : Int) (d : Nat) (W : World) :
    (Op.equalIn (d + 2) 35 (.agg #[.int .u8 a0, .int .u8 a1, .int .u8 a2, .int .u8 a3, .int .u8 a4, .int .u8 a5]) (.agg #[.int .u8 b0, .int .u8 b1, .int .u8 b2, .int .u8 b3, .int .u8 b4, .int .u8 b5])).run Try.prog W = .ok (eq6 a0 a1 a2 a3 a4 a5 b0 b1 b2 b3 b4 b5) W := by
  show (Op.equalIn (d + 1 + 1) 35 _ _).run Try.prog W = _
  have he : ∀ (x y : Int), (Op.equalIn (d + 1) 5 (.int .u8 x) (.int .u8 y)).run Try.prog W = .ok (x == y) W := fun (x y : Int) => run_equalIn_int (P := Try.prog) W d 5 .u8 .u8 x y Try.underlying5
  have hs : (Go.sizeOf 5).run Try.prog W = .ok 1 W := by simp [go_sem]
  have e1 : ∀ (xs : Array Value) (k : Nat) (x : Int), xs[k]? = some (.int .u8 x) → (part 5 xs (k * 1)).run Try.prog W = .ok (.int .u8 x) W := by
    intro xs k x h
    simp [part, go_sem, h]
  unfold Op.equalIn
  simp only [Sem.run_bind, run_underlying Try.underlying35, Result.andThen_ok, hs]
  have hl : List.range' 0 6 1 = [0, 1, 2, 3, 4, 5] := rfl
  rw [Std.Legacy.Range.forIn_eq_forIn_range']
  simp only [Std.Legacy.Range.size]
  simp only [Nat.sub_zero, Nat.add_one_sub_one, Nat.reduceAdd, Nat.reduceDiv, hl]
  have ae0 := e1 #[.int .u8 a0, .int .u8 a1, .int .u8 a2, .int .u8 a3, .int .u8 a4, .int .u8 a5] 0 a0 rfl
  have ae1 := e1 #[.int .u8 a0, .int .u8 a1, .int .u8 a2, .int .u8 a3, .int .u8 a4, .int .u8 a5] 1 a1 rfl
  have ae2 := e1 #[.int .u8 a0, .int .u8 a1, .int .u8 a2, .int .u8 a3, .int .u8 a4, .int .u8 a5] 2 a2 rfl
  have ae3 := e1 #[.int .u8 a0, .int .u8 a1, .int .u8 a2, .int .u8 a3, .int .u8 a4, .int .u8 a5] 3 a3 rfl
  have ae4 := e1 #[.int .u8 a0, .int .u8 a1, .int .u8 a2, .int .u8 a3, .int .u8 a4, .int .u8 a5] 4 a4 rfl
  have ae5 := e1 #[.int .u8 a0, .int .u8 a1, .int .u8 a2, .int .u8 a3, .int .u8 a4, .int .u8 a5] 5 a5 rfl
  have be0 := e1 #[.int .u8 b0, .int .u8 b1, .int .u8 b2, .int .u8 b3, .int .u8 b4, .int .u8 b5] 0 b0 rfl
  have be1 := e1 #[.int .u8 b0, .int .u8 b1, .int .u8 b2, .int .u8 b3, .int .u8 b4, .int .u8 b5] 1 b1 rfl
  have be2 := e1 #[.int .u8 b0, .int .u8 b1, .int .u8 b2, .int .u8 b3, .int .u8 b4, .int .u8 b5] 2 b2 rfl
  have be3 := e1 #[.int .u8 b0, .int .u8 b1, .int .u8 b2, .int .u8 b3, .int .u8 b4, .int .u8 b5] 3 b3 rfl
  have be4 := e1 #[.int .u8 b0, .int .u8 b1, .int .u8 b2, .int .u8 b3, .int .u8 b4, .int .u8 b5] 4 b4 rfl
  have be5 := e1 #[.int .u8 b0, .int .u8 b1, .int .u8 b2, .int .u8 b3, .int .u8 b4, .int .u8 b5] 5 b5 rfl
  rw [run_each (fun k => [a0, a1, a2, a3, a4, a5].getD k 0 == [b0, b1, b2, b3, b4, b5].getD k 0) _ [0, 1, 2, 3, 4, 5] (by
    intro k hk
    simp only [List.mem_cons, List.not_mem_nil, or_false] at hk
    rcases hk with rfl | rfl | rfl | rfl | rfl | rfl
    · simp only [Sem.run_bind, ae0, be0, he, Result.andThen_ok, Sem.run_ite, Sem.run_pure, List.getD_cons_zero]
      cases (a0 == b0) <;> rfl
    · simp only [Sem.run_bind, ae1, be1, he, Result.andThen_ok, Sem.run_ite, Sem.run_pure, List.getD_cons_zero, List.getD_cons_succ]
      cases (a1 == b1) <;> rfl
    · simp only [Sem.run_bind, ae2, be2, he, Result.andThen_ok, Sem.run_ite, Sem.run_pure, List.getD_cons_zero, List.getD_cons_succ]
      cases (a2 == b2) <;> rfl
    · simp only [Sem.run_bind, ae3, be3, he, Result.andThen_ok, Sem.run_ite, Sem.run_pure, List.getD_cons_zero, List.getD_cons_succ]
      cases (a3 == b3) <;> rfl
    · simp only [Sem.run_bind, ae4, be4, he, Result.andThen_ok, Sem.run_ite, Sem.run_pure, List.getD_cons_zero, List.getD_cons_succ]
      cases (a4 == b4) <;> rfl
    · simp only [Sem.run_bind, ae5, be5, he, Result.andThen_ok, Sem.run_ite, Sem.run_pure, List.getD_cons_zero, List.getD_cons_succ]
      cases (a5 == b5) <;> rfl), Result.andThen_ok]
  unfold eq6
  simp only [List.all_cons, List.all_nil, List.getD_cons_zero, List.getD_cons_succ, Bool.and_true]
  by_cases h : a0 = b0 ∧ a1 = b1 ∧ a2 = b2 ∧ a3 = b3 ∧ a4 = b4 ∧ a5 = b5
  · obtain ⟨rfl, rfl, rfl, rfl, rfl, rfl⟩ := h
    simp [Sem.run_pure]
  · rw [decide_eq_false h, if_neg (by simpa using h)]
    simp [Sem.run_pure]
/-- Whether two stations are one. -/
def eqm (x y : Mc) : Bool := eq6 x.b0 x.b1 x.b2 x.b3 x.b4 x.b5 y.b0 y.b1 y.b2 y.b3 y.b4 y.b5
theorem eqm_iff (x y : Mc) : eqm x y = true ↔ x = y := by
  obtain ⟨a0, a1, a2, a3, a4, a5⟩ := x
  obtain ⟨c0, c1, c2, c3, c4, c5⟩ := y
  simp [eqm, eq6]
theorem eqm_self (x : Mc) : eqm x x = true := (eqm_iff x x).2 rfl
theorem run_eq35 (x y : Mc) (d : Nat) (W : World) : (Op.equalIn (d + 2) 35 (mv x) (mv y)).run Try.prog W = .ok (eqm x y) W := run_eq6 _ _ _ _ _ _ _ _ _ _ _ _ d W
end Go.Proofs.Ytpiieagdgickgaa
