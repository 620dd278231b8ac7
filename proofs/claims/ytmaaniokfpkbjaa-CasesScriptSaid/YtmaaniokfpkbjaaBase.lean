/-
  Cases and deeds as plain data and in memory, and rows of them; what a load and a comparison of one do. No condition.
-/
import Derived.Test.YtmaaniokfpkbjaaChecked
import GoSem.Claim
import Derived.WalkKit
import Derived.Lib.Strings
import Derived.WalkLawsBesides
import Derived.BigQuiet
import Derived.Deep.QuietTactic
import Derived.Deep.MidRow
import Derived.Deep.CutRange
import Derived.Deep.LoopGhost
import Derived.Deep.Slices
import Derived.Deep.OwnRows
import Derived.Deep.AppendLies
import Derived.Laws.OwnMore
import Derived.Laws.AppendOwn
import Derived.Laws.ResultCell
import Derived.Laws.BitsAllLaws
import Derived.Maps.AppendAt
import Derived.RegionTactic
import Derived.OwnWalk
import Derived.Lib.Hide
import Derived.Lib.MinMax
import Derived.Lib.QuietBelow
import Derived.StillTailTactics
set_option linter.unusedSimpArgs false
set_option linter.unusedVariables false
namespace Go.Proofs.Ytmaaniokfpkbjaa
open Go.RowKit

theorem bdrewN {B : Nat} {a w : World} (h : Below B a w) (n : Nat) : Below B a (w.drewN n) := h.trans ⟨rfl, rfl, rfl, Nat.le_refl _, fun _ _ => rfl⟩
theorem bcell {W w1 : World} (hb : Below W.heap.size W w1) : (∀ b o, b < W.heap.size → w1.cell? ⟨b, o, none⟩ = W.cell? ⟨b, o, none⟩) ∧ (∀ b o, b < W.heap.size → w1.frozen? ⟨b, o, none⟩ = W.frozen? ⟨b, o, none⟩) :=
  ⟨fun b o h => hb.cell (p := ⟨b, o, none⟩) h, fun b o h => hb.frozen (p := ⟨b, o, none⟩) h⟩
theorem ret_bool {a b : Bool} (h : a = b) : Ending.returned (.bool a) = .returned (.bool b) := by rw [h]
theorem ret_int {k : IntKind} {a b : Int} (h : a = b) : Ending.returned (.int k a) = .returned (.int k b) := by rw [h]
theorem hx_below {w : World} (o : Obj) {w1 : World} (h : Below (w.alloc o).heap.size (w.alloc o) w1) : Below w.heap.size w w1 :=
  ((Below.refl _ w).alloc (Nat.le_refl _) o).trans (h.mono (by simp))
theorem i64_nat {j : Nat} (h : j ≤ 140737488355328) : IntKind.i64.wrap (j : Int) = (j : Int) := by rw [IntKind.wrap_i64]; omega
theorem add_block (y : Addr) (k : Nat) : (y.add k).block = y.block := by unfold Addr.add; split <;> rfl

/-- What an element of a row is, as cells. -/
structure El (α : Type) where
  cl : α → List Value
  N : Nat
  pos : 0 < N
  len : ∀ x, (cl x).length = N
  one : ∀ x, ∀ u ∈ cl x, u.oneCell' = true
/-- All cells of a row. -/
def El.cs {α : Type} (E : El α) (xs : List α) : List Value := xs.flatMap E.cl
section
variable {α : Type} {E : El α}
theorem cs_append (xs ys : List α) : E.cs (xs ++ ys) = E.cs xs ++ E.cs ys := by simp [El.cs]
theorem cs_nil : E.cs [] = [] := rfl
theorem cs_one (xs : List α) : ∀ u ∈ E.cs xs, u.oneCell' = true := by
  intro u hu
  obtain ⟨r, _, h⟩ := List.mem_flatMap.1 hu
  exact E.one r u h
theorem cs_length (xs : List α) : (E.cs xs).length = xs.length * E.N := by
  induction xs with
  | nil => simp [El.cs]
  | cons x r ih => rw [El.cs, List.flatMap_cons, List.length_append, ← El.cs, ih, E.len, List.length_cons, Nat.succ_mul]; omega
theorem cs_at (xs : List α) : ∀ (q : Nat) (x : α) (j : Nat), xs[q]? = some x → j < E.N → (E.cs xs)[q * E.N + j]? = (E.cl x)[j]? := by
  induction xs with
  | nil => intro q x j h; simp at h
  | cons y r ih =>
    intro q x j h hj
    rw [El.cs, List.flatMap_cons, ← El.cs]
    cases q with
    | zero =>
      simp at h
      subst h
      rw [List.getElem?_append_left (by rw [E.len]; omega)]
      simp
    | succ q =>
      rw [List.getElem?_append_right (by rw [E.len, Nat.succ_mul]; omega), E.len, show (q + 1) * E.N + j - E.N = q * E.N + j by rw [Nat.succ_mul]; omega]
      exact ih q x j (by simpa using h) hj
/-- The elements that a slice's value has, wherever they lie. -/
def Rw (E : El α) (w : World) (A : Option Addr) (xs : List α) : Prop :=
  xs.length ≤ 140737488355328 ∧ ∀ (q : Nat) (x : α), xs[q]? = some x → ∃ y, A = some y ∧ ∀ j v, (E.cl x)[j]? = some v → w.cell? (y.add (q * E.N + j)) = some v
theorem Rw.nil (w : World) (A : Option Addr) : Rw E w A [] := ⟨by simp, fun q x h => by simp at h⟩
theorem Rw.cells_keep {w w' : World} {A : Option Addr} {xs : List α} (h : Rw E w A xs) (hc : ∀ y a v, A = some y → a.block = y.block → w.cell? a = some v → w'.cell? a = some v) : Rw E w' A xs := by
  refine ⟨h.1, fun q x hq => ?_⟩
  obtain ⟨y, hy, hc'⟩ := h.2 q x hq
  exact ⟨y, hy, fun j v hv => hc y _ v hy (add_block _ _) (hc' j v hv)⟩
theorem Rw.below {w w' : World} {A : Option Addr} {xs : List α} (h : Rw E w A xs) (hb : Below w.heap.size w w') : Rw E w' A xs :=
  h.cells_keep fun _ _ _ _ _ hc => (hb.cell (World.block_lt_of_cell? _ _ hc)).trans hc
theorem Rw.belowB {w w' : World} {A : Option Addr} {xs : List α} {B : Nat} (h : Rw E w A xs) (hb : Below B w w') (hB : ∀ y, A = some y → y.block < B) : Rw E w' A xs :=
  h.cells_keep fun y a v hy ha hc => (hb.cell (by rw [ha]; exact hB y hy)).trans hc
theorem Rw.grown {w w' : World} {A : Option Addr} {xs : List α} {row : Option Nat} (h : Rw E w A xs) (hg : w.grownBy w' row) (hne : ∀ x, A = some x → some x.block ≠ row) : Rw E w' A xs :=
  h.cells_keep fun y a v hy ha hc => hg.cell hc (by rw [ha]; exact hne y hy)
theorem Rw.drewN {w : World} {A : Option Addr} {xs : List α} (h : Rw E w A xs) (n : Nat) : Rw E (w.drewN n) A xs := h.below (bdrewN (Below.refl _ _) n)
theorem rw_some {w : World} {A : Option Addr} {xs : List α} (h : Rw E w A xs) (hn : 0 < xs.length) : ∃ y, A = some y := by
  obtain ⟨y, hy, _⟩ := h.2 0 xs[0] (List.getElem?_eq_getElem hn)
  exact ⟨y, hy⟩
theorem rw_none {w : World} {xs : List α} (h : Rw E w none xs) : xs = [] := by
  rcases Nat.eq_zero_or_pos xs.length with h0 | h0
  · exact List.eq_nil_of_length_eq_zero h0
  · obtain ⟨x, hx⟩ := rw_some h h0
    cases hx
theorem Rw.at {w : World} {y : Addr} {xs : List α} (h : Rw E w (some y) xs) {q : Nat} {x : α} (hq : xs[q]? = some x) : ∀ j v, (E.cl x)[j]? = some v → w.cell? ((y.add (q * E.N)).add j) = some v := by
  obtain ⟨y', hy, hc⟩ := h.2 q x hq
  injection hy with hy
  subst hy
  intro j v hv
  rw [Addr.add_add]
  exact hc j v hv
/-- All cells of the row, one behind the other. -/
theorem Rw.cells {w : World} {y : Addr} {xs : List α} (h : Rw E w (some y) xs) : ∀ j u, (E.cs xs)[j]? = some u → w.cell? (y.add j) = some u := by
  intro j u hu
  have hN := E.pos
  have hj : j < xs.length * E.N := by have := (List.getElem?_eq_some_iff.1 hu).1; rwa [cs_length] at this
  have e : j = j / E.N * E.N + j % E.N := by have := Nat.div_add_mod j E.N; rw [Nat.mul_comm] at this; omega
  have hq : j / E.N < xs.length := (Nat.div_lt_iff_lt_mul hN).2 hj
  have hx := List.getElem?_eq_getElem hq
  obtain ⟨y', hy, hc⟩ := h.2 (j / E.N) _ hx
  injection hy with hy
  subst hy
  rw [e, cs_at xs (j / E.N) _ (j % E.N) hx (Nat.mod_lt _ hN)] at hu
  rw [e]
  exact hc _ _ hu
/-- A part of the row. -/
theorem Rw.take {w : World} {A : Option Addr} {xs : List α} (h : Rw E w A xs) (n : Nat) : Rw E w A (xs.take n) := by
  refine ⟨by have := h.1; rw [List.length_take]; omega, fun q x hq => h.2 q x ?_⟩
  rw [List.getElem?_take] at hq
  split at hq
  · exact hq
  · cases hq
theorem Rw.drop {w : World} {y : Addr} {xs : List α} (h : Rw E w (some y) xs) (n : Nat) : Rw E w (some (y.add (n * E.N))) (xs.drop n) := by
  refine ⟨by have := h.1; rw [List.length_drop]; omega, fun q x hq => ?_⟩
  rw [List.getElem?_drop] at hq
  obtain ⟨y', hy, hc⟩ := h.2 (n + q) x hq
  injection hy with hy
  subst hy
  refine ⟨_, rfl, fun j v hv => ?_⟩
  rw [Addr.add_add, show n * E.N + (q * E.N + j) = (n + q) * E.N + j by rw [Nat.add_mul]; omega]
  exact hc j v hv
/-- Where the rest of a row lies. -/
def dA (N : Nat) (A : Option Addr) (c k : Nat) : Option Addr := if c = k then A else A.map (·.add (k * N))
theorem Rw.rest {w : World} {A : Option Addr} {xs : List α} (h : Rw E w A xs) {c : Nat} (hc : xs.length ≤ c) (k : Nat) : Rw E w (dA E.N A c k) (xs.drop k) := by
  unfold dA
  split
  · rename_i e
    rw [List.drop_eq_nil_of_le (by omega)]
    exact Rw.nil _ _
  · cases A with
    | none =>
      rw [rw_none h, List.drop_nil]
      exact Rw.nil _ _
    | some y => exact h.drop k
/-- A row of the call's own reads so. -/
theorem own_rw {w : World} {base : Nat} {e : TypeId} {v : Value} {n : Nat} {xs : List α} (h : w.ownsRow base e E.N v n (E.cs xs)) (hn : xs.length ≤ 140737488355328) : ∃ A cap, v = .slice A xs.length cap ∧ xs.length ≤ cap ∧ cap ≤ maxLen ∧ n = xs.length ∧ Rw E w A xs ∧ (∀ y, A = some y → base ≤ y.block ∧ y.block < w.heap.size) := by
  have hl := h.1
  rw [cs_length] at hl
  have hnx : n = xs.length := (Nat.eq_of_mul_eq_mul_right E.pos hl).symm
  subst hnx
  rcases h.2 with ⟨rfl, h0⟩ | ⟨g, cap, cur, rfl, hb, hg, hle, hm, hs, ht⟩
  · have : xs = [] := List.eq_nil_of_length_eq_zero h0
    subst this
    exact ⟨none, 0, rfl, by simp, by unfold maxLen; omega, rfl, Rw.nil _ _, fun y e => by cases e⟩
  · refine ⟨some ⟨g, 0, none⟩, cap, rfl, hle, hm, rfl, ⟨hn, fun q x hq => ⟨_, rfl, fun j v hv => ?_⟩⟩, fun y e => by injection e with e; subst e; exact ⟨hb, (Array.getElem?_eq_some_iff.1 hg).1⟩⟩
    have hj : j < E.N := by have := (List.getElem?_eq_some_iff.1 hv).1; rwa [E.len] at this
    refine h.cells (g := g) rfl _ _ ?_
    rw [cs_at xs q x j hq hj]
    exact hv
theorem own_keep {w w' : World} {base : Nat} {e : TypeId} {size : Nat} {v : Value} {n : Nat} {xs : List Value} (h : w.ownsRow base e size v n xs) (hb : Below w.heap.size w w') : w'.ownsRow base e size v n xs := by
  refine ⟨h.1, h.2.imp id ?_⟩
  rintro ⟨g, cap, cur, e1, e2, e3, r⟩
  refine ⟨g, cap, cur, e1, e2, ?_, r⟩
  rw [hb.block g (Array.getElem?_eq_some_iff.1 e3).1]
  exact e3
theorem own_base {w : World} {base B : Nat} {e : TypeId} {size : Nat} {v : Value} {n : Nat} {xs : List Value} (h : w.ownsRow base e size v n xs) (hb : B ≤ base) : w.ownsRow B e size v n xs := by
  refine ⟨h.1, h.2.imp id ?_⟩
  rintro ⟨g, cap, cur, e1, e2, e3, r⟩
  exact ⟨g, cap, cur, e1, Nat.le_trans hb e2, e3, r⟩
end

/-- A case: of which address, when it was raised, when it ended, its stage. -/
structure Ca where
  a : Int
  r : Int
  d : Int
  g : Int
deriving DecidableEq
def zc : Ca := ⟨0, 0, 0, 0⟩
instance : Inhabited Ca := ⟨zc⟩
def cal (x : Ca) : List Value := [.int .u32 x.a, .int .i64 x.r, .int .i64 x.d, .int .i64 x.g]
def cav (x : Ca) : Value := .agg #[.int .u32 x.a, .int .i64 x.r, .int .i64 x.d, .int .i64 x.g]
def Cax (x : Ca) : Obj := .cells #[.int .u32 x.a, .int .i64 x.r, .int .i64 x.d, .int .i64 x.g] 37
def eA : El Ca := ⟨cal, 4, by decide, fun _ => rfl, by
  intro x u hu
  simp [cal] at hu
  rcases hu with rfl | rfl | rfl | rfl <;> rfl⟩
/-- A deed. -/
structure Ac where
  o : Int
  p : Int
  n : Int
def acl (x : Ac) : List Value := [.int .u8 x.o, .int .u8 x.p, .int .u8 x.n]
def acv (x : Ac) : Value := .agg #[.int .u8 x.o, .int .u8 x.p, .int .u8 x.n]
def Acx (x : Ac) : Obj := .cells #[.int .u8 x.o, .int .u8 x.p, .int .u8 x.n] 31
def eC : El Ac := ⟨acl, 3, by decide, fun _ => rfl, by
  intro x u hu
  simp [acl] at hu
  rcases hu with rfl | rfl | rfl <;> rfl⟩
structure Ac.Ok (x : Ac) : Prop where
  o : 0 ≤ x.o ∧ x.o < 256
  p : 0 ≤ x.p ∧ x.p < 256
  n : 0 ≤ x.n ∧ x.n < 256

theorem size37 : (Try.prog.info? 37).map (·.size) = some 4 := by kernel_rfl
theorem run_size37 (W : World) : (Go.sizeOf 37).run Try.prog W = .ok 4 W := by
  obtain ⟨i, hi, hs⟩ := Option.map_eq_some_iff.1 size37
  rw [← hs]
  simp [Go.sizeOf, typeInfo, hi]
theorem load37 {w : World} {y : Addr} {x : Ca} (h : ∀ j v, (cal x)[j]? = some v → w.cell? (y.add j) = some v) : (Instr.loadAt 37 (.pointer (some y))).run Try.prog w = .ok (.agg (cal x).toArray) w := by
  have hl' : (loadCells y 4).run Try.prog w = .ok (cal x).toArray w := run_loadCells_list (P := Try.prog) w y (cal x) h
  have hg : (isAgg 37).run Try.prog w = .ok true w := by
    unfold isAgg
    simp only [Sem.run_bind, run_underlying Try.underlying37, Result.andThen_ok, Sem.run_pure]
  simp only [Instr.loadAt, Instr.sureAddr, loadVar, Sem.run_bind, Sem.run_pure, Result.andThen_ok, hg, run_size37, hl', if_true]
theorem at_load37 {ops : Array Oper} {rest : List Oper} {op : Oper} {a : Act} {w : World} {Q : Exit → Act → World → Prop} (x : Operand) (hgd : op.guard = none) (ho : op.op = .load 37 x) (y : Addr) (z : Ca) (hx : a.eval x = .pointer (some y)) (hr : ∀ j v, (cal z)[j]? = some v → w.cell? (y.add j) = some v)
    (h : wpList Try.prog ops Q rest (a.put op.dst (.agg #[.int .u32 z.a, .int .i64 z.r, .int .i64 z.d, .int .i64 z.g])) w) : wpList Try.prog ops Q (op :: rest) a w :=
  wpList_plain hgd fun _ hK => by
    unfold Oper.wp execOp
    simp only [ho, hx, Sem.run_bind, Sem.run_pure, Result.andThen_ok, load37 hr]
    exact hK _ _ h
section
variable {ops : Array Oper} {rest : List Oper} {o : Oper} {a : Act} {C : World → Prop} {Q : Act → Prop}
theorem quiet_load37 (x : Operand) (y : Addr) (p : Ca) (hr : ∀ W, C W → ∀ j v, (cal p)[j]? = some v → W.cell? (y.add j) = some v) (hw : Region.wanted o (yielded ops a.tmps) = true) (ho : o.op = .load 37 x) (hx : a.eval x = .pointer (some y)) (h : wpQuiet Try.prog ops C Q rest (a.put o.dst (.agg #[.int .u32 p.a, .int .i64 p.r, .int .i64 p.d, .int .i64 p.g]))) : wpQuiet Try.prog ops C Q (o :: rest) a :=
  BigFrame.wpQuiet_want hw fun K hK => ⟨.agg #[.int .u32 p.a, .int .i64 p.r, .int .i64 p.d, .int .i64 p.g], fun W hC => by
    unfold Oper.quietAt execOp
    simp only [ho, hx, Sem.run_bind, Sem.run_pure, Result.andThen_ok, load37 (hr W hC)]
    exact ⟨rfl, rfl⟩, hK _ h⟩
end

theorem size31 : (Try.prog.info? 31).map (·.size) = some 3 := by kernel_rfl
theorem run_size31 (W : World) : (Go.sizeOf 31).run Try.prog W = .ok 3 W := by
  obtain ⟨i, hi, hs⟩ := Option.map_eq_some_iff.1 size31
  rw [← hs]
  simp [Go.sizeOf, typeInfo, hi]
theorem load31 {w : World} {y : Addr} {x : Ac} (h : ∀ j v, (acl x)[j]? = some v → w.cell? (y.add j) = some v) : (Instr.loadAt 31 (.pointer (some y))).run Try.prog w = .ok (.agg (acl x).toArray) w := by
  have hl' : (loadCells y 3).run Try.prog w = .ok (acl x).toArray w := run_loadCells_list (P := Try.prog) w y (acl x) h
  have hg : (isAgg 31).run Try.prog w = .ok true w := by
    unfold isAgg
    simp only [Sem.run_bind, run_underlying Try.underlying31, Result.andThen_ok, Sem.run_pure]
  simp only [Instr.loadAt, Instr.sureAddr, loadVar, Sem.run_bind, Sem.run_pure, Result.andThen_ok, hg, run_size31, hl', if_true]
theorem at_load31 {ops : Array Oper} {rest : List Oper} {op : Oper} {a : Act} {w : World} {Q : Exit → Act → World → Prop} (x : Operand) (hgd : op.guard = none) (ho : op.op = .load 31 x) (y : Addr) (z : Ac) (hx : a.eval x = .pointer (some y)) (hr : ∀ j v, (acl z)[j]? = some v → w.cell? (y.add j) = some v)
    (h : wpList Try.prog ops Q rest (a.put op.dst (.agg #[.int .u8 z.o, .int .u8 z.p, .int .u8 z.n])) w) : wpList Try.prog ops Q (op :: rest) a w :=
  wpList_plain hgd fun _ hK => by
    unfold Oper.wp execOp
    simp only [ho, hx, Sem.run_bind, Sem.run_pure, Result.andThen_ok, load31 hr]
    exact hK _ _ h
section
variable {ops : Array Oper} {rest : List Oper} {o : Oper} {a : Act} {C : World → Prop} {Q : Act → Prop}
theorem quiet_load31 (x : Operand) (y : Addr) (p : Ac) (hr : ∀ W, C W → ∀ j v, (acl p)[j]? = some v → W.cell? (y.add j) = some v) (hw : Region.wanted o (yielded ops a.tmps) = true) (ho : o.op = .load 31 x) (hx : a.eval x = .pointer (some y)) (h : wpQuiet Try.prog ops C Q rest (a.put o.dst (.agg #[.int .u8 p.o, .int .u8 p.p, .int .u8 p.n]))) : wpQuiet Try.prog ops C Q (o :: rest) a :=
  BigFrame.wpQuiet_want hw fun K hK => ⟨.agg #[.int .u8 p.o, .int .u8 p.p, .int .u8 p.n], fun W hC => by
    unfold Oper.quietAt execOp
    simp only [ho, hx, Sem.run_bind, Sem.run_pure, Result.andThen_ok, load31 (hr W hC)]
    exact ⟨rfl, rfl⟩, hK _ h⟩
end

/-- Whether two cases are one. -/
def eqr (x y : Ca) : Bool := decide (x = y)
theorem run_eq37 (x y : Ca) (W : World) : (Op.equalIn 10000 37 (cav x) (cav y)).run Try.prog W = .ok (eqr x y) W := by
  obtain ⟨a, b, d, n⟩ := x
  obtain ⟨a2, b2, d2, n2⟩ := y
  unfold cav eqr
  dsimp only
  rw [show (10000 : Nat) = 9999 + 1 from rfl, run_equalIn_struct W 9999 37 _ _ (by kernel_rfl) (by kernel_rfl)]
  by_cases h1 : a = a2
  · by_cases h2 : b = b2
    · by_cases h3 : d = d2
      · by_cases h4 : n = n2
        · simp [go_sem, part, h1, h2, h3, h4]
        · simp [go_sem, part, h1, h2, h3, h4]
      · simp [go_sem, part, h1, h2, h3]
    · simp [go_sem, part, h1, h2]
  · simp [go_sem, part, h1]
theorem run_eql37 (x y : Ca) (W : World) : (binOp .eql 37 (cav x) (cav y)).run Try.prog W = .ok (.bool (eqr x y)) W := by
  have := run_eql_struct (P := Try.prog) W 37 (cal x).toArray (cal y).toArray
  rw [show Value.agg (cal x).toArray = cav x from rfl, show Value.agg (cal y).toArray = cav y from rfl, run_eq37] at this
  exact this
theorem run_neq37 (x y : Ca) (W : World) : (binOp .neq 37 (cav x) (cav y)).run Try.prog W = .ok (.bool (!eqr x y)) W := by
  have := run_neq_struct (P := Try.prog) W 37 (cal x).toArray (cal y).toArray
  rw [show Value.agg (cal x).toArray = cav x from rfl, show Value.agg (cal y).toArray = cav y from rfl, run_eq37] at this
  exact this
theorem guard37 (op : BinOp) (p q : Operand) (x y : Ca) (W : World) : (eqGuard op 37 p q (cav x) (cav y)).run Try.prog W = .ok () W := run_eqGuard_agg W op 37 p q _ _ (by kernel_rfl)
section
variable {ops : Array Oper} {rest : List Oper} {o : Oper} {a : Act} {C : World → Prop} {Q : Act → Prop}
theorem quiet_neq37 (x y : Operand) (p q : Ca) (hw : Region.wanted o (yielded ops a.tmps) = true) (ho : o.op = .binOp .neq 37 x y 37) (hx : a.eval x = cav p) (hy : a.eval y = cav q) (h : wpQuiet Try.prog ops C Q rest (a.put o.dst (.bool (!eqr p q)))) : wpQuiet Try.prog ops C Q (o :: rest) a :=
  BigFrame.wpQuiet_want hw fun K hK => ⟨.bool (!eqr p q), fun W hC => by
    unfold Oper.quietAt execOp
    simp only [ho, hx, hy, Sem.run_bind, Sem.run_pure, Result.andThen_ok, guard37, run_neq37]
    exact ⟨rfl, rfl⟩, hK _ h⟩
theorem quiet_eql37 (x y : Operand) (p q : Ca) (hw : Region.wanted o (yielded ops a.tmps) = true) (ho : o.op = .binOp .eql 37 x y 37) (hx : a.eval x = cav p) (hy : a.eval y = cav q) (h : wpQuiet Try.prog ops C Q rest (a.put o.dst (.bool (eqr p q)))) : wpQuiet Try.prog ops C Q (o :: rest) a :=
  BigFrame.wpQuiet_want hw fun K hK => ⟨.bool (eqr p q), fun W hC => by
    unfold Oper.quietAt execOp
    simp only [ho, hx, hy, Sem.run_bind, Sem.run_pure, Result.andThen_ok, guard37, run_eql37]
    exact ⟨rfl, rfl⟩, hK _ h⟩
end
section
variable {ops : Array Oper} {rest : List Oper} {o : Oper} {a : Act} {w : World} {Q : Exit → Act → World → Prop}
theorem wpList_want (hw : Region.wanted o (yielded ops a.tmps) = true) (h : ∀ K : Act → World → Prop, (∀ a w, wpList Try.prog ops Q rest a w → K a w) → o.wp Try.prog a w K Q) : wpList Try.prog ops Q (o :: rest) a w :=
  wpList_step fun K hK => by rw [if_pos hw]; exact h K hK
theorem at_eql37g (x y : Operand) (p q : Ca) (hw : Region.wanted o (yielded ops a.tmps) = true) (ho : o.op = .binOp .eql 37 x y 37) (hx : a.eval x = cav p) (hy : a.eval y = cav q) (h : wpList Try.prog ops Q rest (a.put o.dst (.bool (eqr p q))) w) : wpList Try.prog ops Q (o :: rest) a w :=
  wpList_want hw fun _ hK => by
    unfold Oper.wp execOp
    simp only [ho, hx, hy, Sem.run_bind, Sem.run_pure, Result.andThen_ok, guard37, run_eql37]
    exact hK _ _ h
theorem at_neq37g (x y : Operand) (p q : Ca) (hw : Region.wanted o (yielded ops a.tmps) = true) (ho : o.op = .binOp .neq 37 x y 37) (hx : a.eval x = cav p) (hy : a.eval y = cav q) (h : wpList Try.prog ops Q rest (a.put o.dst (.bool (!eqr p q))) w) : wpList Try.prog ops Q (o :: rest) a w :=
  wpList_want hw fun _ hK => by
    unfold Oper.wp execOp
    simp only [ho, hx, hy, Sem.run_bind, Sem.run_pure, Result.andThen_ok, guard37, run_neq37]
    exact hK _ _ h
theorem at_load37g (x : Operand) (y : Addr) (z : Ca) (hw : Region.wanted o (yielded ops a.tmps) = true) (ho : o.op = .load 37 x) (hx : a.eval x = .pointer (some y)) (hr : ∀ j v, (cal z)[j]? = some v → w.cell? (y.add j) = some v)
    (h : wpList Try.prog ops Q rest (a.put o.dst (.agg #[.int .u32 z.a, .int .i64 z.r, .int .i64 z.d, .int .i64 z.g])) w) : wpList Try.prog ops Q (o :: rest) a w :=
  wpList_want hw fun _ hK => by
    unfold Oper.wp execOp
    simp only [ho, hx, Sem.run_bind, Sem.run_pure, Result.andThen_ok, load37 hr]
    exact hK _ _ h
end
end Go.Proofs.Ytmaaniokfpkbjaa
