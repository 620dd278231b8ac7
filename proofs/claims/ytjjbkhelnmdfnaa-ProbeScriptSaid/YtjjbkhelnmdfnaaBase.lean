/-
  Questions, packets and deeds as plain data and in memory, and rows of them; what a load and a comparison of one do. No condition.
-/
import Derived.Test.YtjjbkhelnmdfnaaChecked
import GoSem.Claim
import Derived.WalkKit
import Derived.Lib.Strings
import Derived.WalkLawsBesides
import Derived.BigQuiet
import Derived.Deep.QuietTactic
import Derived.Deep.MidRow
import Derived.Deep.CutRange
import Derived.Deep.LoopGhost
import Derived.Deep.Slices
import Derived.Deep.OwnRows
import Derived.Deep.AppendLies
import Derived.Laws.OwnMore
import Derived.Laws.AppendOwn
import Derived.Laws.ResultCell
import Derived.Laws.BitsAllLaws
import Derived.Maps.AppendAt
import Derived.RegionTactic
import Derived.OwnWalk
import Derived.Lib.Hide
import Derived.Lib.MinMax
import Derived.Lib.QuietBelow
import Derived.StillTailTactics
set_option linter.unusedSimpArgs false
set_option linter.unusedVariables false
namespace Go.Proofs.Ytjjbkhelnmdfnaa
open Go.RowKit

theorem bdrewN {B : Nat} {a w : World} (h : Below B a w) (n : Nat) : Below B a (w.drewN n) := h.trans ⟨rfl, rfl, rfl, Nat.le_refl _, fun _ _ => rfl⟩
theorem bcell {W w1 : World} (hb : Below W.heap.size W w1) : (∀ b o, b < W.heap.size → w1.cell? ⟨b, o, none⟩ = W.cell? ⟨b, o, none⟩) ∧ (∀ b o, b < W.heap.size → w1.frozen? ⟨b, o, none⟩ = W.frozen? ⟨b, o, none⟩) :=
  ⟨fun b o h => hb.cell (p := ⟨b, o, none⟩) h, fun b o h => hb.frozen (p := ⟨b, o, none⟩) h⟩
theorem ret_bool {a b : Bool} (h : a = b) : Ending.returned (.bool a) = .returned (.bool b) := by rw [h]
theorem ret_int {k : IntKind} {a b : Int} (h : a = b) : Ending.returned (.int k a) = .returned (.int k b) := by rw [h]
theorem hx_below {w : World} (o : Obj) {w1 : World} (h : Below (w.alloc o).heap.size (w.alloc o) w1) : Below w.heap.size w w1 :=
  ((Below.refl _ w).alloc (Nat.le_refl _) o).trans (h.mono (by simp))
theorem i64_nat {j : Nat} (h : j ≤ 140737488355328) : IntKind.i64.wrap (j : Int) = (j : Int) := by rw [IntKind.wrap_i64]; omega
theorem add_block (y : Addr) (k : Nat) : (y.add k).block = y.block := by unfold Addr.add; split <;> rfl

/-- What an element of a row is, as cells. -/
structure El (α : Type) where
  cl : α → List Value
  N : Nat
  pos : 0 < N
  len : ∀ x, (cl x).length = N
  one : ∀ x, ∀ u ∈ cl x, u.oneCell' = true
/-- All cells of a row. -/
def El.cs {α : Type} (E : El α) (xs : List α) : List Value := xs.flatMap E.cl
section
variable {α : Type} {E : El α}
theorem cs_append (xs ys : List α) : E.cs (xs ++ ys) = E.cs xs ++ E.cs ys := by simp [El.cs]
theorem cs_nil : E.cs [] = [] := rfl
theorem cs_one (xs : List α) : ∀ u ∈ E.cs xs, u.oneCell' = true := by
  intro u hu
  obtain ⟨r, _, h⟩ := List.mem_flatMap.1 hu
  exact E.one r u h
theorem cs_length (xs : List α) : (E.cs xs).length = xs.length * E.N := by
  induction xs with
  | nil => simp [El.cs]
  | cons x r ih => rw [El.cs, List.flatMap_cons, List.length_append, ← El.cs, ih, E.len, List.length_cons, Nat.succ_mul]; omega
theorem cs_at (xs : List α) : ∀ (q : Nat) (x : α) (j : Nat), xs[q]? = some x → j < E.N → (E.cs xs)[q * E.N + j]? = (E.cl x)[j]? := by
  induction xs with
  | nil => intro q x j h; simp at h
  | cons y r ih =>
    intro q x j h hj
    rw [El.cs, List.flatMap_cons, ← El.cs]
    cases q with
    | zero =>
      simp at h
      subst h
      rw [List.getElem?_append_left (by rw [E.len]; omega)]
      simp
    | succ q =>
      rw [List.getElem?_append_right (by rw [E.len, Nat.succ_mul]; omega), E.len, show (q + 1) * E.N + j - E.N = q * E.N + j by rw [Nat.succ_mul]; omega]
      exact ih q x j (by simpa using h) hj
/-- The elements that a slice's value has, wherever they lie. -/
def Rw (E : El α) (w : World) (A : Option Addr) (xs : List α) : Prop :=
  xs.length ≤ 140737488355328 ∧ ∀ (q : Nat) (x : α), xs[q]? = some x → ∃ y, A = some y ∧ ∀ j v, (E.cl x)[j]? = some v → w.cell? (y.add (q * E.N + j)) = some v
theorem Rw.nil (w : World) (A : Option Addr) : Rw E w A [] := ⟨by simp, fun q x h => by simp at h⟩
theorem Rw.cells_keep {w w' : World} {A : Option Addr} {xs : List α} (h : Rw E w A xs) (hc : ∀ y a v, A = some y → a.block = y.block → w.cell? a = some v → w'.cell? a = some v) : Rw E w' A xs := by
  refine ⟨h.1, fun q x hq => ?_⟩
  obtain ⟨y, hy, hc'⟩ := h.2 q x hq
  exact ⟨y, hy, fun j v hv => hc y _ v hy (add_block _ _) (hc' j v hv)⟩
theorem Rw.below {w w' : World} {A : Option Addr} {xs : List α} (h : Rw E w A xs) (hb : Below w.heap.size w w') : Rw E w' A xs :=
  h.cells_keep fun _ _ _ _ _ hc => (hb.cell (World.block_lt_of_cell? _ _ hc)).trans hc
theorem Rw.belowB {w w' : World} {A : Option Addr} {xs : List α} {B : Nat} (h : Rw E w A xs) (hb : Below B w w') (hB : ∀ y, A = some y → y.block < B) : Rw E w' A xs :=
  h.cells_keep fun y a v hy ha hc => (hb.cell (by rw [ha]; exact hB y hy)).trans hc
theorem Rw.grown {w w' : World} {A : Option Addr} {xs : List α} {row : Option Nat} (h : Rw E w A xs) (hg : w.grownBy w' row) (hne : ∀ x, A = some x → some x.block ≠ row) : Rw E w' A xs :=
  h.cells_keep fun y a v hy ha hc => hg.cell hc (by rw [ha]; exact hne y hy)
theorem Rw.drewN {w : World} {A : Option Addr} {xs : List α} (h : Rw E w A xs) (n : Nat) : Rw E (w.drewN n) A xs := h.below (bdrewN (Below.refl _ _) n)
theorem rw_some {w : World} {A : Option Addr} {xs : List α} (h : Rw E w A xs) (hn : 0 < xs.length) : ∃ y, A = some y := by
  obtain ⟨y, hy, _⟩ := h.2 0 xs[0] (List.getElem?_eq_getElem hn)
  exact ⟨y, hy⟩
theorem rw_none {w : World} {xs : List α} (h : Rw E w none xs) : xs = [] := by
  rcases Nat.eq_zero_or_pos xs.length with h0 | h0
  · exact List.eq_nil_of_length_eq_zero h0
  · obtain ⟨x, hx⟩ := rw_some h h0
    cases hx
theorem Rw.at {w : World} {y : Addr} {xs : List α} (h : Rw E w (some y) xs) {q : Nat} {x : α} (hq : xs[q]? = some x) : ∀ j v, (E.cl x)[j]? = some v → w.cell? ((y.add (q * E.N)).add j) = some v := by
  obtain ⟨y', hy, hc⟩ := h.2 q x hq
  injection hy with hy
  subst hy
  intro j v hv
  rw [Addr.add_add]
  exact hc j v hv
/-- All cells of the row, one behind the other. -/
theorem Rw.cells {w : World} {y : Addr} {xs : List α} (h : Rw E w (some y) xs) : ∀ j u, (E.cs xs)[j]? = some u → w.cell? (y.add j) = some u := by
  intro j u hu
  have hN := E.pos
  have hj : j < xs.length * E.N := by have := (List.getElem?_eq_some_iff.1 hu).1; rwa [cs_length] at this
  have e : j = j / E.N * E.N + j % E.N := by have := Nat.div_add_mod j E.N; rw [Nat.mul_comm] at this; omega
  have hq : j / E.N < xs.length := (Nat.div_lt_iff_lt_mul hN).2 hj
  have hx := List.getElem?_eq_getElem hq
  obtain ⟨y', hy, hc⟩ := h.2 (j / E.N) _ hx
  injection hy with hy
  subst hy
  rw [e, cs_at xs (j / E.N) _ (j % E.N) hx (Nat.mod_lt _ hN)] at hu
  rw [e]
  exact hc _ _ hu
/-- A part of the row. -/
theorem Rw.take {w : World} {A : Option Addr} {xs : List α} (h : Rw E w A xs) (n : Nat) : Rw E w A (xs.take n) := by
  refine ⟨by have := h.1; rw [List.length_take]; omega, fun q x hq => h.2 q x ?_⟩
  rw [List.getElem?_take] at hq
  split at hq
  · exact hq
  · cases hq
theorem Rw.drop {w : World} {y : Addr} {xs : List α} (h : Rw E w (some y) xs) (n : Nat) : Rw E w (some (y.add (n * E.N))) (xs.drop n) := by
  refine ⟨by have := h.1; rw [List.length_drop]; omega, fun q x hq => ?_⟩
  rw [List.getElem?_drop] at hq
  obtain ⟨y', hy, hc⟩ := h.2 (n + q) x hq
  injection hy with hy
  subst hy
  refine ⟨_, rfl, fun j v hv => ?_⟩
  rw [Addr.add_add, show n * E.N + (q * E.N + j) = (n + q) * E.N + j by rw [Nat.add_mul]; omega]
  exact hc j v hv
/-- Where the rest of a row lies. -/
def dA (N : Nat) (A : Option Addr) (c k : Nat) : Option Addr := if c = k then A else A.map (·.add (k * N))
theorem Rw.rest {w : World} {A : Option Addr} {xs : List α} (h : Rw E w A xs) {c : Nat} (hc : xs.length ≤ c) (k : Nat) : Rw E w (dA E.N A c k) (xs.drop k) := by
  unfold dA
  split
  · rename_i e
    rw [List.drop_eq_nil_of_le (by omega)]
    exact Rw.nil _ _
  · cases A with
    | none =>
      rw [rw_none h, List.drop_nil]
      exact Rw.nil _ _
    | some y => exact h.drop k
/-- A row of the call's own reads so. -/
theorem own_rw {w : World} {base : Nat} {e : TypeId} {v : Value} {n : Nat} {xs : List α} (h : w.ownsRow base e E.N v n (E.cs xs)) (hn : xs.length ≤ 140737488355328) : ∃ A cap, v = .slice A xs.length cap ∧ xs.length ≤ cap ∧ cap ≤ maxLen ∧ n = xs.length ∧ Rw E w A xs ∧ (∀ y, A = some y → base ≤ y.block ∧ y.block < w.heap.size) := by
  have hl := h.1
  rw [cs_length] at hl
  have hnx : n = xs.length := (Nat.eq_of_mul_eq_mul_right E.pos hl).symm
  subst hnx
  rcases h.2 with ⟨rfl, h0⟩ | ⟨g, cap, cur, rfl, hb, hg, hle, hm, hs, ht⟩
  · have : xs = [] := List.eq_nil_of_length_eq_zero h0
    subst this
    exact ⟨none, 0, rfl, by simp, by unfold maxLen; omega, rfl, Rw.nil _ _, fun y e => by cases e⟩
  · refine ⟨some ⟨g, 0, none⟩, cap, rfl, hle, hm, rfl, ⟨hn, fun q x hq => ⟨_, rfl, fun j v hv => ?_⟩⟩, fun y e => by injection e with e; subst e; exact ⟨hb, (Array.getElem?_eq_some_iff.1 hg).1⟩⟩
    have hj : j < E.N := by have := (List.getElem?_eq_some_iff.1 hv).1; rwa [E.len] at this
    refine h.cells (g := g) rfl _ _ ?_
    rw [cs_at xs q x j hq hj]
    exact hv
theorem own_keep {w w' : World} {base : Nat} {e : TypeId} {size : Nat} {v : Value} {n : Nat} {xs : List Value} (h : w.ownsRow base e size v n xs) (hb : Below w.heap.size w w') : w'.ownsRow base e size v n xs := by
  refine ⟨h.1, h.2.imp id ?_⟩
  rintro ⟨g, cap, cur, e1, e2, e3, r⟩
  refine ⟨g, cap, cur, e1, e2, ?_, r⟩
  rw [hb.block g (Array.getElem?_eq_some_iff.1 e3).1]
  exact e3
theorem own_base {w : World} {base B : Nat} {e : TypeId} {size : Nat} {v : Value} {n : Nat} {xs : List Value} (h : w.ownsRow base e size v n xs) (hb : B ≤ base) : w.ownsRow B e size v n xs := by
  refine ⟨h.1, h.2.imp id ?_⟩
  rintro ⟨g, cap, cur, e1, e2, e3, r⟩
  exact ⟨g, cap, cur, e1, Nat.le_trans hb e2, e3, r⟩
end

/-- A question: to whom, its two numbers, when it was sent, how often. -/
structure Pr where
  a : Int
  i : Int
  s : Int
  t : Int
  n : Int
deriving DecidableEq
def zr : Pr := ⟨0, 0, 0, 0, 0⟩
instance : Inhabited Pr := ⟨zr⟩
def prl (x : Pr) : List Value := [.int .u32 x.a, .int .i64 x.i, .int .i64 x.s, .int .i64 x.t, .int .i64 x.n]
def prv (x : Pr) : Value := .agg #[.int .u32 x.a, .int .i64 x.i, .int .i64 x.s, .int .i64 x.t, .int .i64 x.n]
def Prx (x : Pr) : Obj := .cells #[.int .u32 x.a, .int .i64 x.i, .int .i64 x.s, .int .i64 x.t, .int .i64 x.n] 37
def eP : El Pr := ⟨prl, 5, by decide, fun _ => rfl, by
  intro x u hu
  simp [prl] at hu
  rcases hu with rfl | rfl | rfl | rfl | rfl <;> rfl⟩
/-- A packet. -/
structure Pk where
  a : Bool
  f : Int
  t : Int
  m0 : Int
  m1 : Int
  m2 : Int
  m3 : Int
  m4 : Int
  m5 : Int
  i : Int
  s : Int
deriving DecidableEq
def zk : Pk := ⟨false, 0, 0, 0, 0, 0, 0, 0, 0, 0, 0⟩
def pkl (p : Pk) : List Value := [.bool p.a, .int .u32 p.f, .int .u32 p.t, .int .u8 p.m0, .int .u8 p.m1, .int .u8 p.m2, .int .u8 p.m3, .int .u8 p.m4, .int .u8 p.m5, .int .i64 p.i, .int .i64 p.s]
def pkv (p : Pk) : Value := .agg #[.bool p.a, .int .u32 p.f, .int .u32 p.t, .int .u8 p.m0, .int .u8 p.m1, .int .u8 p.m2, .int .u8 p.m3, .int .u8 p.m4, .int .u8 p.m5, .int .i64 p.i, .int .i64 p.s]
def Pkx (p : Pk) : Obj := .cells #[.bool p.a, .int .u32 p.f, .int .u32 p.t, .int .u8 p.m0, .int .u8 p.m1, .int .u8 p.m2, .int .u8 p.m3, .int .u8 p.m4, .int .u8 p.m5, .int .i64 p.i, .int .i64 p.s] 44
/-- A deed. -/
structure Ac where
  o : Int
  p : Int
  q : Int
  r : Int
def acl (x : Ac) : List Value := [.int .u8 x.o, .int .u8 x.p, .int .u16 x.q, .int .u8 x.r]
def acv (x : Ac) : Value := .agg #[.int .u8 x.o, .int .u8 x.p, .int .u16 x.q, .int .u8 x.r]
def Acx (x : Ac) : Obj := .cells #[.int .u8 x.o, .int .u8 x.p, .int .u16 x.q, .int .u8 x.r] 32
def eC : El Ac := ⟨acl, 4, by decide, fun _ => rfl, by
  intro x u hu
  simp [acl] at hu
  rcases hu with rfl | rfl | rfl | rfl <;> rfl⟩
structure Ac.Ok (x : Ac) : Prop where
  o : 0 ≤ x.o ∧ x.o < 256
  p : 0 ≤ x.p ∧ x.p < 256
  q : 0 ≤ x.q ∧ x.q < 65536
  r : 0 ≤ x.r ∧ x.r < 256

theorem size37 : (Try.prog.info? 37).map (·.size) = some 5 := by kernel_rfl
theorem run_size37 (W : World) : (Go.sizeOf 37).run Try.prog W = .ok 5 W := by
  obtain ⟨i, hi, hs⟩ := Option.map_eq_some_iff.1 size37
  rw [← hs]
  simp [Go.sizeOf, typeInfo, hi]
theorem load37 {w : World} {y : Addr} {x : Pr} (h : ∀ j v, (prl x)[j]? = some v → w.cell? (y.add j) = some v) : (Instr.loadAt 37 (.pointer (some y))).run Try.prog w = .ok (.agg (prl x).toArray) w := by
  have hl' : (loadCells y 5).run Try.prog w = .ok (prl x).toArray w := run_loadCells_list (P := Try.prog) w y (prl x) h
  have hg : (isAgg 37).run Try.prog w = .ok true w := by
    unfold isAgg
    simp only [Sem.run_bind, run_underlying Try.underlying37, Result.andThen_ok, Sem.run_pure]
  simp only [Instr.loadAt, Instr.sureAddr, loadVar, Sem.run_bind, Sem.run_pure, Result.andThen_ok, hg, run_size37, hl', if_true]
theorem at_load37 {ops : Array Oper} {rest : List Oper} {op : Oper} {a : Act} {w : World} {Q : Exit → Act → World → Prop} (x : Operand) (hgd : op.guard = none) (ho : op.op = .load 37 x) (y : Addr) (z : Pr) (hx : a.eval x = .pointer (some y)) (hr : ∀ j v, (prl z)[j]? = some v → w.cell? (y.add j) = some v)
    (h : wpList Try.prog ops Q rest (a.put op.dst (.agg #[.int .u32 z.a, .int .i64 z.i, .int .i64 z.s, .int .i64 z.t, .int .i64 z.n])) w) : wpList Try.prog ops Q (op :: rest) a w :=
  wpList_plain hgd fun _ hK => by
    unfold Oper.wp execOp
    simp only [ho, hx, Sem.run_bind, Sem.run_pure, Result.andThen_ok, load37 hr]
    exact hK _ _ h
section
variable {ops : Array Oper} {rest : List Oper} {o : Oper} {a : Act} {C : World → Prop} {Q : Act → Prop}
theorem quiet_load37 (x : Operand) (y : Addr) (p : Pr) (hr : ∀ W, C W → ∀ j v, (prl p)[j]? = some v → W.cell? (y.add j) = some v) (hw : Region.wanted o (yielded ops a.tmps) = true) (ho : o.op = .load 37 x) (hx : a.eval x = .pointer (some y)) (h : wpQuiet Try.prog ops C Q rest (a.put o.dst (.agg #[.int .u32 p.a, .int .i64 p.i, .int .i64 p.s, .int .i64 p.t, .int .i64 p.n]))) : wpQuiet Try.prog ops C Q (o :: rest) a :=
  BigFrame.wpQuiet_want hw fun K hK => ⟨.agg #[.int .u32 p.a, .int .i64 p.i, .int .i64 p.s, .int .i64 p.t, .int .i64 p.n], fun W hC => by
    unfold Oper.quietAt execOp
    simp only [ho, hx, Sem.run_bind, Sem.run_pure, Result.andThen_ok, load37 (hr W hC)]
    exact ⟨rfl, rfl⟩, hK _ h⟩
end

theorem size44 : (Try.prog.info? 44).map (·.size) = some 11 := by kernel_rfl
theorem run_size44 (W : World) : (Go.sizeOf 44).run Try.prog W = .ok 11 W := by
  obtain ⟨i, hi, hs⟩ := Option.map_eq_some_iff.1 size44
  rw [← hs]
  simp [Go.sizeOf, typeInfo, hi]
theorem load44 {w : World} {y : Addr} {x : Pk} (h : ∀ j v, (pkl x)[j]? = some v → w.cell? (y.add j) = some v) : (Instr.loadAt 44 (.pointer (some y))).run Try.prog w = .ok (.agg (pkl x).toArray) w := by
  have hl' : (loadCells y 11).run Try.prog w = .ok (pkl x).toArray w := run_loadCells_list (P := Try.prog) w y (pkl x) h
  have hg : (isAgg 44).run Try.prog w = .ok true w := by
    unfold isAgg
    simp only [Sem.run_bind, run_underlying Try.underlying44, Result.andThen_ok, Sem.run_pure]
  simp only [Instr.loadAt, Instr.sureAddr, loadVar, Sem.run_bind, Sem.run_pure, Result.andThen_ok, hg, run_size44, hl', if_true]
theorem at_load44 {ops : Array Oper} {rest : List Oper} {op : Oper} {a : Act} {w : World} {Q : Exit → Act → World → Prop} (x : Operand) (hgd : op.guard = none) (ho : op.op = .load 44 x) (y : Addr) (z : Pk) (hx : a.eval x = .pointer (some y)) (hr : ∀ j v, (pkl z)[j]? = some v → w.cell? (y.add j) = some v)
    (h : wpList Try.prog ops Q rest (a.put op.dst (.agg #[.bool z.a, .int .u32 z.f, .int .u32 z.t, .int .u8 z.m0, .int .u8 z.m1, .int .u8 z.m2, .int .u8 z.m3, .int .u8 z.m4, .int .u8 z.m5, .int .i64 z.i, .int .i64 z.s])) w) : wpList Try.prog ops Q (op :: rest) a w :=
  wpList_plain hgd fun _ hK => by
    unfold Oper.wp execOp
    simp only [ho, hx, Sem.run_bind, Sem.run_pure, Result.andThen_ok, load44 hr]
    exact hK _ _ h
section
variable {ops : Array Oper} {rest : List Oper} {o : Oper} {a : Act} {C : World → Prop} {Q : Act → Prop}
theorem quiet_load44 (x : Operand) (y : Addr) (p : Pk) (hr : ∀ W, C W → ∀ j v, (pkl p)[j]? = some v → W.cell? (y.add j) = some v) (hw : Region.wanted o (yielded ops a.tmps) = true) (ho : o.op = .load 44 x) (hx : a.eval x = .pointer (some y)) (h : wpQuiet Try.prog ops C Q rest (a.put o.dst (.agg #[.bool p.a, .int .u32 p.f, .int .u32 p.t, .int .u8 p.m0, .int .u8 p.m1, .int .u8 p.m2, .int .u8 p.m3, .int .u8 p.m4, .int .u8 p.m5, .int .i64 p.i, .int .i64 p.s]))) : wpQuiet Try.prog ops C Q (o :: rest) a :=
  BigFrame.wpQuiet_want hw fun K hK => ⟨.agg #[.bool p.a, .int .u32 p.f, .int .u32 p.t, .int .u8 p.m0, .int .u8 p.m1, .int .u8 p.m2, .int .u8 p.m3, .int .u8 p.m4, .int .u8 p.m5, .int .i64 p.i, .int .i64 p.s], fun W hC => by
    unfold Oper.quietAt execOp
    simp only [ho, hx, Sem.run_bind, Sem.run_pure, Result.andThen_ok, load44 (hr W hC)]
    exact ⟨rfl, rfl⟩, hK _ h⟩
end

theorem size32 : (Try.prog.info? 32).map (·.size) = some 4 := by kernel_rfl
theorem run_size32 (W : World) : (Go.sizeOf 32).run Try.prog W = .ok 4 W := by
  obtain ⟨i, hi, hs⟩ := Option.map_eq_some_iff.1 size32
  rw [← hs]
  simp [Go.sizeOf, typeInfo, hi]
theorem load32 {w : World} {y : Addr} {x : Ac} (h : ∀ j v, (acl x)[j]? = some v → w.cell? (y.add j) = some v) : (Instr.loadAt 32 (.pointer (some y))).run Try.prog w = .ok (.agg (acl x).toArray) w := by
  have hl' : (loadCells y 4).run Try.prog w = .ok (acl x).toArray w := run_loadCells_list (P := Try.prog) w y (acl x) h
  have hg : (isAgg 32).run Try.prog w = .ok true w := by
    unfold isAgg
    simp only [Sem.run_bind, run_underlying Try.underlying32, Result.andThen_ok, Sem.run_pure]
  simp only [Instr.loadAt, Instr.sureAddr, loadVar, Sem.run_bind, Sem.run_pure, Result.andThen_ok, hg, run_size32, hl', if_true]
theorem at_load32 {ops : Array Oper} {rest : List Oper} {op : Oper} {a : Act} {w : World} {Q : Exit → Act → World → Prop} (x : Operand) (hgd : op.guard = none) (ho : op.op = .load 32 x) (y : Addr) (z : Ac) (hx : a.eval x = .pointer (some y)) (hr : ∀ j v, (acl z)[j]? = some v → w.cell? (y.add j) = some v)
    (h : wpList Try.prog ops Q rest (a.put op.dst (.agg #[.int .u8 z.o, .int .u8 z.p, .int .u16 z.q, .int .u8 z.r])) w) : wpList Try.prog ops Q (op :: rest) a w :=
  wpList_plain hgd fun _ hK => by
    unfold Oper.wp execOp
    simp only [ho, hx, Sem.run_bind, Sem.run_pure, Result.andThen_ok, load32 hr]
    exact hK _ _ h
section
variable {ops : Array Oper} {rest : List Oper} {o : Oper} {a : Act} {C : World → Prop} {Q : Act → Prop}
theorem quiet_load32 (x : Operand) (y : Addr) (p : Ac) (hr : ∀ W, C W → ∀ j v, (acl p)[j]? = some v → W.cell? (y.add j) = some v) (hw : Region.wanted o (yielded ops a.tmps) = true) (ho : o.op = .load 32 x) (hx : a.eval x = .pointer (some y)) (h : wpQuiet Try.prog ops C Q rest (a.put o.dst (.agg #[.int .u8 p.o, .int .u8 p.p, .int .u16 p.q, .int .u8 p.r]))) : wpQuiet Try.prog ops C Q (o :: rest) a :=
  BigFrame.wpQuiet_want hw fun K hK => ⟨.agg #[.int .u8 p.o, .int .u8 p.p, .int .u16 p.q, .int .u8 p.r], fun W hC => by
    unfold Oper.quietAt execOp
    simp only [ho, hx, Sem.run_bind, Sem.run_pure, Result.andThen_ok, load32 (hr W hC)]
    exact ⟨rfl, rfl⟩, hK _ h⟩
end

/-- Whether two questions are one. -/
def eqr (x y : Pr) : Bool := decide (x = y)
theorem run_eq37 (x y : Pr) (W : World) : (Op.equalIn 10000 37 (prv x) (prv y)).run Try.prog W = .ok (eqr x y) W := by
  obtain ⟨a, b, d, n, m⟩ := x
  obtain ⟨a2, b2, d2, n2, m2⟩ := y
  unfold prv eqr
  dsimp only
  rw [show (10000 : Nat) = 9999 + 1 from rfl, run_equalIn_struct W 9999 37 _ _ (by kernel_rfl) (by kernel_rfl)]
  by_cases h1 : a = a2
  · by_cases h2 : b = b2
    · by_cases h3 : d = d2
      · by_cases h4 : n = n2
        · by_cases h5 : m = m2
          · simp [go_sem, part, h1, h2, h3, h4, h5]
          · simp [go_sem, part, h1, h2, h3, h4, h5]
        · simp [go_sem, part, h1, h2, h3, h4]
      · simp [go_sem, part, h1, h2, h3]
    · simp [go_sem, part, h1, h2]
  · simp [go_sem, part, h1]
theorem run_eql37 (x y : Pr) (W : World) : (binOp .eql 37 (prv x) (prv y)).run Try.prog W = .ok (.bool (eqr x y)) W := by
  have := run_eql_struct (P := Try.prog) W 37 (prl x).toArray (prl y).toArray
  rw [show Value.agg (prl x).toArray = prv x from rfl, show Value.agg (prl y).toArray = prv y from rfl, run_eq37] at this
  exact this
theorem run_neq37 (x y : Pr) (W : World) : (binOp .neq 37 (prv x) (prv y)).run Try.prog W = .ok (.bool (!eqr x y)) W := by
  have := run_neq_struct (P := Try.prog) W 37 (prl x).toArray (prl y).toArray
  rw [show Value.agg (prl x).toArray = prv x from rfl, show Value.agg (prl y).toArray = prv y from rfl, run_eq37] at this
  exact this
theorem guard37 (op : BinOp) (p q : Operand) (x y : Pr) (W : World) : (eqGuard op 37 p q (prv x) (prv y)).run Try.prog W = .ok () W := run_eqGuard_agg W op 37 p q _ _ (by kernel_rfl)
section
variable {ops : Array Oper} {rest : List Oper} {o : Oper} {a : Act} {C : World → Prop} {Q : Act → Prop}
theorem quiet_neq37 (x y : Operand) (p q : Pr) (hw : Region.wanted o (yielded ops a.tmps) = true) (ho : o.op = .binOp .neq 37 x y 37) (hx : a.eval x = prv p) (hy : a.eval y = prv q) (h : wpQuiet Try.prog ops C Q rest (a.put o.dst (.bool (!eqr p q)))) : wpQuiet Try.prog ops C Q (o :: rest) a :=
  BigFrame.wpQuiet_want hw fun K hK => ⟨.bool (!eqr p q), fun W hC => by
    unfold Oper.quietAt execOp
    simp only [ho, hx, hy, Sem.run_bind, Sem.run_pure, Result.andThen_ok, guard37, run_neq37]
    exact ⟨rfl, rfl⟩, hK _ h⟩
theorem quiet_eql37 (x y : Operand) (p q : Pr) (hw : Region.wanted o (yielded ops a.tmps) = true) (ho : o.op = .binOp .eql 37 x y 37) (hx : a.eval x = prv p) (hy : a.eval y = prv q) (h : wpQuiet Try.prog ops C Q rest (a.put o.dst (.bool (eqr p q)))) : wpQuiet Try.prog ops C Q (o :: rest) a :=
  BigFrame.wpQuiet_want hw fun K hK => ⟨.bool (eqr p q), fun W hC => by
    unfold Oper.quietAt execOp
    simp only [ho, hx, hy, Sem.run_bind, Sem.run_pure, Result.andThen_ok, guard37, run_eql37]
    exact ⟨rfl, rfl⟩, hK _ h⟩
end
section
variable {ops : Array Oper} {rest : List Oper} {o : Oper} {a : Act} {w : World} {Q : Exit → Act → World → Prop}
theorem wpList_want (hw : Region.wanted o (yielded ops a.tmps) = true) (h : ∀ K : Act → World → Prop, (∀ a w, wpList Try.prog ops Q rest a w → K a w) → o.wp Try.prog a w K Q) : wpList Try.prog ops Q (o :: rest) a w :=
  wpList_step fun K hK => by rw [if_pos hw]; exact h K hK
theorem at_eql37g (x y : Operand) (p q : Pr) (hw : Region.wanted o (yielded ops a.tmps) = true) (ho : o.op = .binOp .eql 37 x y 37) (hx : a.eval x = prv p) (hy : a.eval y = prv q) (h : wpList Try.prog ops Q rest (a.put o.dst (.bool (eqr p q))) w) : wpList Try.prog ops Q (o :: rest) a w :=
  wpList_want hw fun _ hK => by
    unfold Oper.wp execOp
    simp only [ho, hx, hy, Sem.run_bind, Sem.run_pure, Result.andThen_ok, guard37, run_eql37]
    exact hK _ _ h
theorem at_load37g (x : Operand) (y : Addr) (z : Pr) (hw : Region.wanted o (yielded ops a.tmps) = true) (ho : o.op = .load 37 x) (hx : a.eval x = .pointer (some y)) (hr : ∀ j v, (prl z)[j]? = some v → w.cell? (y.add j) = some v)
    (h : wpList Try.prog ops Q rest (a.put o.dst (.agg #[.int .u32 z.a, .int .i64 z.i, .int .i64 z.s, .int .i64 z.t, .int .i64 z.n])) w) : wpList Try.prog ops Q (o :: rest) a w :=
  wpList_want hw fun _ hK => by
    unfold Oper.wp execOp
    simp only [ho, hx, Sem.run_bind, Sem.run_pure, Result.andThen_ok, load37 hr]
    exact hK _ _ h
theorem at_load44g (x : Operand) (y : Addr) (z : Pk) (hw : Region.wanted o (yielded ops a.tmps) = true) (ho : o.op = .load 44 x) (hx : a.eval x = .pointer (some y)) (hr : ∀ j v, (pkl z)[j]? = some v → w.cell? (y.add j) = some v)
    (h : wpList Try.prog ops Q rest (a.put o.dst (pkv z)) w) : wpList Try.prog ops Q (o :: rest) a w :=
  wpList_want hw fun _ hK => by
    unfold Oper.wp execOp
    simp only [ho, hx, Sem.run_bind, Sem.run_pure, Result.andThen_ok, load44 hr]
    exact hK _ _ h
end
/-- Whether two numbers are the same. -/
def eq6 (a0 a1 a2 a3 a4 a5 b0 b1 b2 b3 b4 b5 : Int) : Bool := decide (a0 = b0 ∧ a1 = b1 ∧ a2 = b2 ∧ a3 = b3 ∧ a4 = b4 ∧ a5 = b5)

theorem run_each {P : Program} {W : World} (f : Nat → Bool) (body : Nat → Option Bool × Unit → Sem (ForInStep (Option Bool × Unit))) :
    ∀ ks : List Nat, (∀ k ∈ ks, (body k (none, ())).run P W = .ok (if f k = true then ForInStep.yield (none, ()) else ForInStep.done (some false, ())) W) →
      (forIn ks (none, ()) body).run P W = .ok (if ks.all f = true then (none, ()) else (some false, ())) W
  | [], _ => by simp [Sem.run_pure]
  | k :: ks, h => by
    have ih := run_each f body ks (fun j hj => h j (List.mem_cons_of_mem _ hj))
    rw [List.forIn_cons, Sem.run_bind, h k (List.mem_cons_self ..), Result.andThen_ok]
    cases hk : f k
    · simp [hk, Sem.run_pure]
    · simp only [if_true]
      rw [ih]
      simp [hk]

theorem run_eq6 (a0 a1 a2 a3 a4 a5 b0 b1 b2 b3 b4 b5 : Int) (d : Nat) (W : World) :
    (Op.equalIn (d + 2) 42 (.agg #[.int .u8 a0, .int .u8 a1, .int .u8 a2, .int .u8 a3, .int .u8 a4, .int .u8 a5]) (.agg #[.int .u8 b0, .int .u8 b1, .int .u8 b2, .int .u8 b3, .int .u8 b4, .int .u8 b5])).run Try.prog W = .ok (eq6 a0 a1 a2 a3 a4 a5 b0 b1 b2 b3 b4 b5) W := by
  show (Op.equalIn (d + 1 + 1) 42 _ _).run Try.prog W = _
  have he : ∀ (x y : Int), (Op.equalIn (d + 1) 5 (.int .u8 x) (.int .u8 y)).run Try.prog W = .ok (x == y) W := fun (x y : Int) => run_equalIn_int (P := Try.prog) W d 5 .u8 .u8 x y Try.underlying5
  have hs : (Go.sizeOf 5).run Try.prog W = .ok 1 W := by simp [go_sem]
  have e1 : ∀ (xs : Array Value) (k : Nat) (x : Int), xs[k]? = some (.int .u8 x) → (part 5 xs (k * 1)).run Try.prog W = .ok (.int .u8 x) W := by
    intro xs k x h
    simp [part, go_sem, h]
  unfold Op.equalIn
  simp only [Sem.run_bind, run_underlying Try.underlying42, Result.andThen_ok, hs]
  have hl : List.range' 0 6 1 = [0, 1, 2, 3, 4, 5] := rfl
  rw [Std.Legacy.Range.forIn_eq_forIn_range']
  simp only [Std.Legacy.Range.size]
  simp only [Nat.sub_zero, Nat.add_one_sub_one, Nat.reduceAdd, Nat.reduceDiv, hl]
  have ae0 := e1 #[.int .u8 a0, .int .u8 a1, .int .u8 a2, .int .u8 a3, .int .u8 a4, .int .u8 a5] 0 a0 rfl
  have ae1 := e1 #[.int .u8 a0, .int .u8 a1, .int .u8 a2, .int .u8 a3, .int .u8 a4, .int .u8 a5] 1 a1 rfl
  have ae2 := e1 #[.int .u8 a0, .int .u8 a1, .int .u8 a2, .int .u8 a3, .int .u8 a4, .int .u8 a5] 2 a2 rfl
  have ae3 := e1 #[.int .u8 a0, .int .u8 a1, .int .u8 a2, .int .u8 a3, .int .u8 a4, .int .u8 a5] 3 a3 rfl
  have ae4 := e1 #[.int .u8 a0, .int .u8 a1, .int .u8 a2, .int .u8 a3, .int .u8 a4, .int .u8 a5] 4 a4 rfl
  have ae5 := e1 #[.int .u8 a0, .int .u8 a1, .int .u8 a2, .int .u8 a3, .int .u8 a4, .int .u8 a5] 5 a5 rfl
  have be0 := e1 #[.int .u8 b0, .int .u8 b1, .int .u8 b2, .int .u8 b3, .int .u8 b4, .int .u8 b5] 0 b0 rfl
  have be1 := e1 #[.int .u8 b0, .int .u8 b1, .int .u8 b2, .int .u8 b3, .int .u8 b4, .int .u8 b5] 1 b1 rfl
  have be2 := e1 #[.int .u8 b0, .int .u8 b1, .int .u8 b2, .int .u8 b3, .int .u8 b4, .int .u8 b5] 2 b2 rfl
  have be3 := e1 #[.int .u8 b0, .int .u8 b1, .int .u8 b2, .int .u8 b3, .int .u8 b4, .int .u8 b5] 3 b3 rfl
  have be4 := e1 #[.int .u8 b0, .int .u8 b1, .int .u8 b2, .int .u8 b3, .int .u8 b4, .int .u8 b5] 4 b4 rfl
  have be5 := e1 #[.int .u8 b0, .int .u8 b1, .int .u8 b2, .int .u8 b3, .int .u8 b4, .int .u8 b5] 5 b5 rfl
  rw [run_each (fun k => [a0, a1, a2, a3, a4, a5].getD k 0 == [b0, b1, b2, b3, b4, b5].getD k 0) _ [0, 1, 2, 3, 4, 5] (by
    intro k hk
    simp only [List.mem_cons, List.not_mem_nil, or_false] at hk
    rcases hk with rfl | rfl | rfl | rfl | rfl | rfl
    · simp only [Sem.run_bind, ae0, be0, he, Result.andThen_ok, Sem.run_ite, Sem.run_pure, List.getD_cons_zero]
      cases (a0 == b0) <;> rfl
    · simp only [Sem.run_bind, ae1, be1, he, Result.andThen_ok, Sem.run_ite, Sem.run_pure, List.getD_cons_zero, List.getD_cons_succ]
      cases (a1 == b1) <;> rfl
    · simp only [Sem.run_bind, ae2, be2, he, Result.andThen_ok, Sem.run_ite, Sem.run_pure, List.getD_cons_zero, List.getD_cons_succ]
      cases (a2 == b2) <;> rfl
    · simp only [Sem.run_bind, ae3, be3, he, Result.andThen_ok, Sem.run_ite, Sem.run_pure, List.getD_cons_zero, List.getD_cons_succ]
      cases (a3 == b3) <;> rfl
    · simp only [Sem.run_bind, ae4, be4, he, Result.andThen_ok, Sem.run_ite, Sem.run_pure, List.getD_cons_zero, List.getD_cons_succ]
      cases (a4 == b4) <;> rfl
    · simp only [Sem.run_bind, ae5, be5, he, Result.andThen_ok, Sem.run_ite, Sem.run_pure, List.getD_cons_zero, List.getD_cons_succ]
      cases (a5 == b5) <;> rfl), Result.andThen_ok]
  unfold eq6
  simp only [List.all_cons, List.all_nil, List.getD_cons_zero, List.getD_cons_succ, Bool.and_true]
  by_cases h : a0 = b0 ∧ a1 = b1 ∧ a2 = b2 ∧ a3 = b3 ∧ a4 = b4 ∧ a5 = b5
  · obtain ⟨rfl, rfl, rfl, rfl, rfl, rfl⟩ := h
    simp [Sem.run_pure]
  · rw [decide_eq_false h, if_neg (by simpa using h)]
    simp [Sem.run_pure]

/-- Whether two packets are the same. -/
def eqk (p q : Pk) : Bool := p.a == q.a && (p.f == q.f && (p.t == q.t && (eq6 p.m0 p.m1 p.m2 p.m3 p.m4 p.m5 q.m0 q.m1 q.m2 q.m3 q.m4 q.m5 && (p.i == q.i && p.s == q.s))))
theorem eqk_refl (p : Pk) : eqk p p = true := by simp [eqk, eq6]
theorem run_eq44 (p q : Pk) (W : World) : (Op.equalIn 10000 44 (pkv p) (pkv q)).run Try.prog W = .ok (eqk p q) W := by
  have h6 := run_eq6 p.m0 p.m1 p.m2 p.m3 p.m4 p.m5 q.m0 q.m1 q.m2 q.m3 q.m4 q.m5 9997 W
  unfold pkv
  rw [show (10000 : Nat) = 9999 + 1 from rfl, run_equalIn_struct W 9999 44 _ _ (by kernel_rfl) (by kernel_rfl)]
  simp [go_sem, h6, part]
  clear h6
  unfold eqk
  generalize eq6 _ _ _ _ _ _ _ _ _ _ _ _ = b
  by_cases h1 : p.a = q.a
  · by_cases h2 : p.f = q.f
    · by_cases h3 : p.t = q.t
      · cases b
        · simp [h1, h2, h3]
        · by_cases h4 : p.i = q.i
          · by_cases h5 : p.s = q.s
            · simp [h1, h2, h3, h4, h5]
            · simp [h1, h2, h3, h4, h5]
          · simp [h1, h2, h3, h4]
      · simp [h1, h2, h3]
    · simp [h1, h2]
  · simp [h1]
theorem run_eql44 (p q : Pk) (W : World) : (binOp .eql 44 (pkv p) (pkv q)).run Try.prog W = .ok (.bool (eqk p q)) W := by
  have := run_eql_struct (P := Try.prog) W 44 (pkl p).toArray (pkl q).toArray
  rw [show Value.agg (pkl p).toArray = pkv p from rfl, show Value.agg (pkl q).toArray = pkv q from rfl, run_eq44] at this
  exact this
theorem guard44 (op : BinOp) (x y : Operand) (p q : Pk) (W : World) : (eqGuard op 44 x y (pkv p) (pkv q)).run Try.prog W = .ok () W := run_eqGuard_agg W op 44 x y _ _ (by kernel_rfl)
section
variable {ops : Array Oper} {rest : List Oper} {o : Oper} {a : Act} {w : World} {Q : Exit → Act → World → Prop}
theorem at_eql44g (x y : Operand) (p q : Pk) (hw : Region.wanted o (yielded ops a.tmps) = true) (ho : o.op = .binOp .eql 44 x y 44) (hx : a.eval x = pkv p) (hy : a.eval y = pkv q) (h : wpList Try.prog ops Q rest (a.put o.dst (.bool (eqk p q))) w) : wpList Try.prog ops Q (o :: rest) a w :=
  wpList_want hw fun _ hK => by
    unfold Oper.wp execOp
    simp only [ho, hx, hy, Sem.run_bind, Sem.run_pure, Result.andThen_ok, guard44, run_eql44]
    exact hK _ _ h
end
end Go.Proofs.Ytjjbkhelnmdfnaa
