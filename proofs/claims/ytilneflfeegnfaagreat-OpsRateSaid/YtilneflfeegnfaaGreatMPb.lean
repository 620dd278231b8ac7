/-
  Part of the proofs of layer 18: several texts in one file. No condition of its own.
-/
import Derived.Test.YtilneflfeegnfaaGreatChecked
import GoSem.Claim
import Derived.WalkKit
import Derived.Lib.Strings
import Derived.WalkLawsBesides
import Derived.BigQuiet
import Derived.Deep.QuietTactic
import Derived.Deep.MidRow
import Derived.Deep.CutRange
import Derived.Deep.LoopGhost
import Derived.Deep.Slices
import Derived.Deep.OwnRows
import Derived.Deep.AppendLies
import Derived.Laws.OwnMore
import Derived.Laws.AppendOwn
import Derived.Laws.ResultCell
import Derived.Laws.BitsAllLaws
import Derived.Maps.AppendAt
import Derived.RegionTactic
import Derived.OwnWalk
import Derived.Lib.Hide
import Derived.Lib.MinMax
import Derived.Lib.QuietBelow
import Derived.StillTailTactics
import Derived.Test.YtilneflfeegnfaaGreatMG
import Derived.Lib.SliceRun
import Derived.BigGuard
/-
  Questions, packets and deeds as plain data and in memory, and rows of them; what a load and a comparison of one do. No condition.
-/
set_option linter.unusedSimpArgs false
set_option linter.unusedVariables false
namespace Go.Proofs.YtilneflfeegnfaaGreat.Pb
open Go.RowKit

section
variable {α : Type} {E : El α}
end

/-- A question: to whom, its two numbers, when it was sent, how often. -/
structure Pr where
  a : Int
  i : Int
  s : Int
  t : Int
  n : Int
deriving DecidableEq
def zr : Pr := ⟨0, 0, 0, 0, 0⟩
instance : Inhabited Pr := ⟨zr⟩
def prl (x : Pr) : List Value := [.int .u32 x.a, .int .i64 x.i, .int .i64 x.s, .int .i64 x.t, .int .i64 x.n]
def prv (x : Pr) : Value := .agg #[.int .u32 x.a, .int .i64 x.i, .int .i64 x.s, .int .i64 x.t, .int .i64 x.n]
def Prx (x : Pr) : Obj := .cells #[.int .u32 x.a, .int .i64 x.i, .int .i64 x.s, .int .i64 x.t, .int .i64 x.n] 97
def eP : El Pr := ⟨prl, 5, by decide, fun _ => rfl, by
  intro x u hu
  simp [prl] at hu
  rcases hu with rfl | rfl | rfl | rfl | rfl <;> rfl⟩
/-- A packet. -/
structure Pk where
  a : Bool
  f : Int
  t : Int
  m0 : Int
  m1 : Int
  m2 : Int
  m3 : Int
  m4 : Int
  m5 : Int
  i : Int
  s : Int
deriving DecidableEq
def zk : Pk := ⟨false, 0, 0, 0, 0, 0, 0, 0, 0, 0, 0⟩
def pkl (p : Pk) : List Value := [.bool p.a, .int .u32 p.f, .int .u32 p.t, .int .u8 p.m0, .int .u8 p.m1, .int .u8 p.m2, .int .u8 p.m3, .int .u8 p.m4, .int .u8 p.m5, .int .i64 p.i, .int .i64 p.s]
def pkv (p : Pk) : Value := .agg #[.bool p.a, .int .u32 p.f, .int .u32 p.t, .int .u8 p.m0, .int .u8 p.m1, .int .u8 p.m2, .int .u8 p.m3, .int .u8 p.m4, .int .u8 p.m5, .int .i64 p.i, .int .i64 p.s]
def Pkx (p : Pk) : Obj := .cells #[.bool p.a, .int .u32 p.f, .int .u32 p.t, .int .u8 p.m0, .int .u8 p.m1, .int .u8 p.m2, .int .u8 p.m3, .int .u8 p.m4, .int .u8 p.m5, .int .i64 p.i, .int .i64 p.s] 103
/-- A deed. -/
structure Ac where
  o : Int
  p : Int
  q : Int
  r : Int
def acl (x : Ac) : List Value := [.int .u8 x.o, .int .u8 x.p, .int .u16 x.q, .int .u8 x.r]
def acv (x : Ac) : Value := .agg #[.int .u8 x.o, .int .u8 x.p, .int .u16 x.q, .int .u8 x.r]
def eC : El Ac := ⟨acl, 4, by decide, fun _ => rfl, by
  intro x u hu
  simp [acl] at hu
  rcases hu with rfl | rfl | rfl | rfl <;> rfl⟩
structure Ac.Ok (x : Ac) : Prop where
  o : 0 ≤ x.o ∧ x.o < 256
  p : 0 ≤ x.p ∧ x.p < 256
  q : 0 ≤ x.q ∧ x.q < 65536
  r : 0 ≤ x.r ∧ x.r < 256

theorem size37 : (Tryz.prog.info? 97).map (·.size) = some 5 := by kernel_rfl
theorem run_size37 (W : World) : (Go.sizeOf 97).run Tryz.prog W = .ok 5 W := by
  obtain ⟨i, hi, hs⟩ := Option.map_eq_some_iff.1 size37
  rw [← hs]
  simp [Go.sizeOf, typeInfo, hi]
theorem load37 {w : World} {y : Addr} {x : Pr} (h : ∀ j v, (prl x)[j]? = some v → w.cell? (y.add j) = some v) : (Instr.loadAt 97 (.pointer (some y))).run Tryz.prog w = .ok (.agg (prl x).toArray) w := by
  have hl' : (loadCells y 5).run Tryz.prog w = .ok (prl x).toArray w := run_loadCells_list (P := Tryz.prog) w y (prl x) h
  have hg : (isAgg 97).run Tryz.prog w = .ok true w := by
    unfold isAgg
    simp only [Sem.run_bind, run_underlying Tryz.underlying97, Result.andThen_ok, Sem.run_pure]
  simp only [Instr.loadAt, Instr.sureAddr, loadVar, Sem.run_bind, Sem.run_pure, Result.andThen_ok, hg, run_size37, hl', if_true]
theorem at_load37 {ops : Array Oper} {rest : List Oper} {op : Oper} {a : Act} {w : World} {Q : Exit → Act → World → Prop} (x : Operand) (hgd : op.guard = none) (ho : op.op = .load 97 x) (y : Addr) (z : Pr) (hx : a.eval x = .pointer (some y)) (hr : ∀ j v, (prl z)[j]? = some v → w.cell? (y.add j) = some v)
    (h : wpList Tryz.prog ops Q rest (a.put op.dst (.agg #[.int .u32 z.a, .int .i64 z.i, .int .i64 z.s, .int .i64 z.t, .int .i64 z.n])) w) : wpList Tryz.prog ops Q (op :: rest) a w :=
  wpList_plain hgd fun _ hK => by
    unfold Oper.wp execOp
    simp only [ho, hx, Sem.run_bind, Sem.run_pure, Result.andThen_ok, load37 hr]
    exact hK _ _ h
section
variable {ops : Array Oper} {rest : List Oper} {o : Oper} {a : Act} {C : World → Prop} {Q : Act → Prop}
theorem quiet_load37 (x : Operand) (y : Addr) (p : Pr) (hr : ∀ W, C W → ∀ j v, (prl p)[j]? = some v → W.cell? (y.add j) = some v) (hw : Region.wanted o (yielded ops a.tmps) = true) (ho : o.op = .load 97 x) (hx : a.eval x = .pointer (some y)) (h : wpQuiet Tryz.prog ops C Q rest (a.put o.dst (.agg #[.int .u32 p.a, .int .i64 p.i, .int .i64 p.s, .int .i64 p.t, .int .i64 p.n]))) : wpQuiet Tryz.prog ops C Q (o :: rest) a :=
  BigFrame.wpQuiet_want hw fun K hK => ⟨.agg #[.int .u32 p.a, .int .i64 p.i, .int .i64 p.s, .int .i64 p.t, .int .i64 p.n], fun W hC => by
    unfold Oper.quietAt execOp
    simp only [ho, hx, Sem.run_bind, Sem.run_pure, Result.andThen_ok, load37 (hr W hC)]
    exact ⟨rfl, rfl⟩, hK _ h⟩
end

theorem size44 : (Tryz.prog.info? 103).map (·.size) = some 11 := by kernel_rfl
theorem run_size44 (W : World) : (Go.sizeOf 103).run Tryz.prog W = .ok 11 W := by
  obtain ⟨i, hi, hs⟩ := Option.map_eq_some_iff.1 size44
  rw [← hs]
  simp [Go.sizeOf, typeInfo, hi]
theorem load44 {w : World} {y : Addr} {x : Pk} (h : ∀ j v, (pkl x)[j]? = some v → w.cell? (y.add j) = some v) : (Instr.loadAt 103 (.pointer (some y))).run Tryz.prog w = .ok (.agg (pkl x).toArray) w := by
  have hl' : (loadCells y 11).run Tryz.prog w = .ok (pkl x).toArray w := run_loadCells_list (P := Tryz.prog) w y (pkl x) h
  have hg : (isAgg 103).run Tryz.prog w = .ok true w := by
    unfold isAgg
    simp only [Sem.run_bind, run_underlying Tryz.underlying103, Result.andThen_ok, Sem.run_pure]
  simp only [Instr.loadAt, Instr.sureAddr, loadVar, Sem.run_bind, Sem.run_pure, Result.andThen_ok, hg, run_size44, hl', if_true]
theorem at_load44 {ops : Array Oper} {rest : List Oper} {op : Oper} {a : Act} {w : World} {Q : Exit → Act → World → Prop} (x : Operand) (hgd : op.guard = none) (ho : op.op = .load 103 x) (y : Addr) (z : Pk) (hx : a.eval x = .pointer (some y)) (hr : ∀ j v, (pkl z)[j]? = some v → w.cell? (y.add j) = some v)
    (h : wpList Tryz.prog ops Q rest (a.put op.dst (.agg #[.bool z.a, .int .u32 z.f, .int .u32 z.t, .int .u8 z.m0, .int .u8 z.m1, .int .u8 z.m2, .int .u8 z.m3, .int .u8 z.m4, .int .u8 z.m5, .int .i64 z.i, .int .i64 z.s])) w) : wpList Tryz.prog ops Q (op :: rest) a w :=
  wpList_plain hgd fun _ hK => by
    unfold Oper.wp execOp
    simp only [ho, hx, Sem.run_bind, Sem.run_pure, Result.andThen_ok, load44 hr]
    exact hK _ _ h
section
variable {ops : Array Oper} {rest : List Oper} {o : Oper} {a : Act} {C : World → Prop} {Q : Act → Prop}
theorem quiet_load44 (x : Operand) (y : Addr) (p : Pk) (hr : ∀ W, C W → ∀ j v, (pkl p)[j]? = some v → W.cell? (y.add j) = some v) (hw : Region.wanted o (yielded ops a.tmps) = true) (ho : o.op = .load 103 x) (hx : a.eval x = .pointer (some y)) (h : wpQuiet Tryz.prog ops C Q rest (a.put o.dst (.agg #[.bool p.a, .int .u32 p.f, .int .u32 p.t, .int .u8 p.m0, .int .u8 p.m1, .int .u8 p.m2, .int .u8 p.m3, .int .u8 p.m4, .int .u8 p.m5, .int .i64 p.i, .int .i64 p.s]))) : wpQuiet Tryz.prog ops C Q (o :: rest) a :=
  BigFrame.wpQuiet_want hw fun K hK => ⟨.agg #[.bool p.a, .int .u32 p.f, .int .u32 p.t, .int .u8 p.m0, .int .u8 p.m1, .int .u8 p.m2, .int .u8 p.m3, .int .u8 p.m4, .int .u8 p.m5, .int .i64 p.i, .int .i64 p.s], fun W hC => by
    unfold Oper.quietAt execOp
    simp only [ho, hx, Sem.run_bind, Sem.run_pure, Result.andThen_ok, load44 (hr W hC)]
    exact ⟨rfl, rfl⟩, hK _ h⟩
end

section
variable {ops : Array Oper} {rest : List Oper} {o : Oper} {a : Act} {C : World → Prop} {Q : Act → Prop}
end

/-- Whether two questions are one. -/
def eqr (x y : Pr) : Bool := decide (x = y)
theorem run_eq37 (x y : Pr) (W : World) : (Op.equalIn 10000 97 (prv x) (prv y)).run Tryz.prog W = .ok (eqr x y) W := by
  obtain ⟨a, b, d, n, m⟩ := x
  obtain ⟨a2, b2, d2, n2, m2⟩ := y
  unfold prv eqr
  dsimp only
  rw [show (10000 : Nat) = 9999 + 1 from rfl, run_equalIn_struct W 9999 97 _ _ (by kernel_rfl) (by kernel_rfl)]
  by_cases h1 : a = a2
  · by_cases h2 : b = b2
    · by_cases h3 : d = d2
      · by_cases h4 : n = n2
        · by_cases h5 : m = m2
          · simp [go_sem, part, h1, h2, h3, h4, h5]
          · simp [go_sem, part, h1, h2, h3, h4, h5]
        · simp [go_sem, part, h1, h2, h3, h4]
      · simp [go_sem, part, h1, h2, h3]
    · simp [go_sem, part, h1, h2]
  · simp [go_sem, part, h1]
theorem run_eql37 (x y : Pr) (W : World) : (binOp .eql 97 (prv x) (prv y)).run Tryz.prog W = .ok (.bool (eqr x y)) W := by
  have := run_eql_struct (P := Tryz.prog) W 97 (prl x).toArray (prl y).toArray
  rw [show Value.agg (prl x).toArray = prv x from rfl, show Value.agg (prl y).toArray = prv y from rfl, run_eq37] at this
  exact this
theorem run_neq37 (x y : Pr) (W : World) : (binOp .neq 97 (prv x) (prv y)).run Tryz.prog W = .ok (.bool (!eqr x y)) W := by
  have := run_neq_struct (P := Tryz.prog) W 97 (prl x).toArray (prl y).toArray
  rw [show Value.agg (prl x).toArray = prv x from rfl, show Value.agg (prl y).toArray = prv y from rfl, run_eq37] at this
  exact this
theorem guard37 (op : BinOp) (p q : Operand) (x y : Pr) (W : World) : (eqGuard op 97 p q (prv x) (prv y)).run Tryz.prog W = .ok () W := run_eqGuard_agg W op 97 p q _ _ (by kernel_rfl)
section
variable {ops : Array Oper} {rest : List Oper} {o : Oper} {a : Act} {C : World → Prop} {Q : Act → Prop}
theorem quiet_neq37 (x y : Operand) (p q : Pr) (hw : Region.wanted o (yielded ops a.tmps) = true) (ho : o.op = .binOp .neq 97 x y 97) (hx : a.eval x = prv p) (hy : a.eval y = prv q) (h : wpQuiet Tryz.prog ops C Q rest (a.put o.dst (.bool (!eqr p q)))) : wpQuiet Tryz.prog ops C Q (o :: rest) a :=
  BigFrame.wpQuiet_want hw fun K hK => ⟨.bool (!eqr p q), fun W hC => by
    unfold Oper.quietAt execOp
    simp only [ho, hx, hy, Sem.run_bind, Sem.run_pure, Result.andThen_ok, guard37, run_neq37]
    exact ⟨rfl, rfl⟩, hK _ h⟩
theorem quiet_eql37 (x y : Operand) (p q : Pr) (hw : Region.wanted o (yielded ops a.tmps) = true) (ho : o.op = .binOp .eql 97 x y 97) (hx : a.eval x = prv p) (hy : a.eval y = prv q) (h : wpQuiet Tryz.prog ops C Q rest (a.put o.dst (.bool (eqr p q)))) : wpQuiet Tryz.prog ops C Q (o :: rest) a :=
  BigFrame.wpQuiet_want hw fun K hK => ⟨.bool (eqr p q), fun W hC => by
    unfold Oper.quietAt execOp
    simp only [ho, hx, hy, Sem.run_bind, Sem.run_pure, Result.andThen_ok, guard37, run_eql37]
    exact ⟨rfl, rfl⟩, hK _ h⟩
end
section
variable {ops : Array Oper} {rest : List Oper} {o : Oper} {a : Act} {w : World} {Q : Exit → Act → World → Prop}
theorem at_eql37g (x y : Operand) (p q : Pr) (hw : Region.wanted o (yielded ops a.tmps) = true) (ho : o.op = .binOp .eql 97 x y 97) (hx : a.eval x = prv p) (hy : a.eval y = prv q) (h : wpList Tryz.prog ops Q rest (a.put o.dst (.bool (eqr p q))) w) : wpList Tryz.prog ops Q (o :: rest) a w :=
  wpList_want hw fun _ hK => by
    unfold Oper.wp execOp
    simp only [ho, hx, hy, Sem.run_bind, Sem.run_pure, Result.andThen_ok, guard37, run_eql37]
    exact hK _ _ h
theorem at_load37g (x : Operand) (y : Addr) (z : Pr) (hw : Region.wanted o (yielded ops a.tmps) = true) (ho : o.op = .load 97 x) (hx : a.eval x = .pointer (some y)) (hr : ∀ j v, (prl z)[j]? = some v → w.cell? (y.add j) = some v)
    (h : wpList Tryz.prog ops Q rest (a.put o.dst (.agg #[.int .u32 z.a, .int .i64 z.i, .int .i64 z.s, .int .i64 z.t, .int .i64 z.n])) w) : wpList Tryz.prog ops Q (o :: rest) a w :=
  wpList_want hw fun _ hK => by
    unfold Oper.wp execOp
    simp only [ho, hx, Sem.run_bind, Sem.run_pure, Result.andThen_ok, load37 hr]
    exact hK _ _ h
theorem at_load44g (x : Operand) (y : Addr) (z : Pk) (hw : Region.wanted o (yielded ops a.tmps) = true) (ho : o.op = .load 103 x) (hx : a.eval x = .pointer (some y)) (hr : ∀ j v, (pkl z)[j]? = some v → w.cell? (y.add j) = some v)
    (h : wpList Tryz.prog ops Q rest (a.put o.dst (pkv z)) w) : wpList Tryz.prog ops Q (o :: rest) a w :=
  wpList_want hw fun _ hK => by
    unfold Oper.wp execOp
    simp only [ho, hx, Sem.run_bind, Sem.run_pure, Result.andThen_ok, load44 hr]
    exact hK _ _ h
end
/-- Whether two packets are the same. -/
def eqk (p q : Pk) : Bool := p.a == q.a && (p.f == q.f && (p.t == q.t && (eq6 p.m0 p.m1 p.m2 p.m3 p.m4 p.m5 q.m0 q.m1 q.m2 q.m3 q.m4 q.m5 && (p.i == q.i && p.s == q.s))))
theorem eqk_refl (p : Pk) : eqk p p = true := by simp [eqk, eq6]
theorem run_eq44 (p q : Pk) (W : World) : (Op.equalIn 10000 103 (pkv p) (pkv q)).run Tryz.prog W = .ok (eqk p q) W := by
  have h6 := run_eq6 p.m0 p.m1 p.m2 p.m3 p.m4 p.m5 q.m0 q.m1 q.m2 q.m3 q.m4 q.m5 9997 W
  unfold pkv
  rw [show (10000 : Nat) = 9999 + 1 from rfl, run_equalIn_struct W 9999 103 _ _ (by kernel_rfl) (by kernel_rfl)]
  simp [go_sem, h6, part]
  clear h6
  unfold eqk
  generalize eq6 _ _ _ _ _ _ _ _ _ _ _ _ = b
  by_cases h1 : p.a = q.a
  · by_cases h2 : p.f = q.f
    · by_cases h3 : p.t = q.t
      · cases b
        · simp [h1, h2, h3]
        · by_cases h4 : p.i = q.i
          · by_cases h5 : p.s = q.s
            · simp [h1, h2, h3, h4, h5]
            · simp [h1, h2, h3, h4, h5]
          · simp [h1, h2, h3, h4]
      · simp [h1, h2, h3]
    · simp [h1, h2]
  · simp [h1]
theorem run_eql44 (p q : Pk) (W : World) : (binOp .eql 103 (pkv p) (pkv q)).run Tryz.prog W = .ok (.bool (eqk p q)) W := by
  have := run_eql_struct (P := Tryz.prog) W 103 (pkl p).toArray (pkl q).toArray
  rw [show Value.agg (pkl p).toArray = pkv p from rfl, show Value.agg (pkl q).toArray = pkv q from rfl, run_eq44] at this
  exact this
theorem guard44 (op : BinOp) (x y : Operand) (p q : Pk) (W : World) : (eqGuard op 103 x y (pkv p) (pkv q)).run Tryz.prog W = .ok () W := run_eqGuard_agg W op 103 x y _ _ (by kernel_rfl)
section
variable {ops : Array Oper} {rest : List Oper} {o : Oper} {a : Act} {w : World} {Q : Exit → Act → World → Prop}
theorem at_eql44g (x y : Operand) (p q : Pk) (hw : Region.wanted o (yielded ops a.tmps) = true) (ho : o.op = .binOp .eql 103 x y 103) (hx : a.eval x = pkv p) (hy : a.eval y = pkv q) (h : wpList Tryz.prog ops Q rest (a.put o.dst (.bool (eqk p q))) w) : wpList Tryz.prog ops Q (o :: rest) a w :=
  wpList_want hw fun _ hK => by
    unfold Oper.wp execOp
    simp only [ho, hx, hy, Sem.run_bind, Sem.run_pure, Result.andThen_ok, guard44, run_eql44]
    exact hK _ _ h
end
end Go.Proofs.YtilneflfeegnfaaGreat.Pb

/-
  Appends to rows of questions; the contracts of slices.Grow and slices.Concat at questions. Conditions: of up to 1000000 elements in all, which lie in memory.
-/
set_option linter.unusedSimpArgs false
set_option linter.unusedVariables false
namespace Go.Proofs.YtilneflfeegnfaaGreat.Pb
open Go.RowKit

def zrv : Value := .agg #[.int .u32 0, .int .i64 0, .int .i64 0, .int .i64 0, .int .i64 0]
theorem info37 : (Tryz.prog.info? 97).map (fun i => (i.zero, i.size, i.bytes)) = some (some zrv, 5, 40) := by kernel_rfl
theorem tP : Ty eP 32 97 := ⟨Tryz.underlying32, by
  obtain ⟨i, hi, hz0, hz1, hz2⟩ := info_parts info37
  exact ⟨i, _, _, hi, hz0, hz1, hz2, rfl, by omega⟩⟩

section
variable {α : Type} {E : El α} {S T : TypeId} (D : Ty E S T)
include D
theorem wpList_append_rw (w : World) {ops : Array Oper} {rest : List Oper} {o : Oper} {a : Act} {Q : Exit → Act → World → Prop} (hgd : o.guard = none) (s x : Operand) (ho : o.op = .call { callee := .builtin .append, args := #[s, x], argTypes := #[S, S] })
    (base : Nat) (v : Value) (n : Nat) (xs : List α) (hs : a.eval s = v) (hown : w.ownsRow base T E.N v n (E.cs xs)) (A : Option Addr) (m c : Nat) (ys : List α) (hx : a.eval x = .slice A m c) (hm : m = ys.length) (hr : Rw E w A ys)
    (hlen : n + m ≤ 1000000000000) (hbase : base ≤ w.heap.size)
    (h : ∀ v' w', w'.ownsRow base T E.N v' (n + m) (E.cs (xs ++ ys)) → w.grownBy w' v.ownBlock → wpList Tryz.prog ops Q rest (a.put o.dst v') w') : wpList Tryz.prog ops Q (o :: rest) a w :=
  wpList_plain hgd fun _ hK => by
    obtain ⟨v', w', hrun, h2, h3⟩ := run_append_rw D w base o.type v n xs hown A m c ys hm hr hlen hbase
    unfold Oper.wp execOp
    simp only [ho, resolve, invoke, builtin, Sem.run_bind, Sem.run_pure, Result.andThen_ok, List.map_toArray, List.map_cons, List.map_nil, hs, hx, hrun]
    exact hK _ _ (h v' w' h2 h3)
end

set_option maxRecDepth 100000 in
set_option maxHeartbeats 2000000 in
theorem grow_any (n : Nat) (w : World) (hn : n ≤ 1000000) : Calls Tryz.prog 133 #[.slice none 0 0, .int .i64 (n : Int)] w (OwnPost eP 97 w []) := by
  by_cases h0 : n = 0
  · subst h0
    go_enter Tryz.func133, Tryz.ntmps133
    go_wp2_with fail
    go_ret
    exact ⟨_, rfl, World.ownsRow_nil _ _ _ _, Below.refl _ _⟩
  · have h1 : 0 < n := by omega
    have h1' : (0 : Int) < n := by omega
    clear h0
    go_enter Tryz.func133, Tryz.ntmps133
    go_wp2_with (at_builtin; refine wpList_zeros tP Tryz.underlying3 _ rfl (.tmp 20) (.tmp 21) rfl n (by simp [Act.eval, Act.put]) (by simp [Act.eval, Act.put]) h1 hn ?_)
    intro C cap hge hle hsz
    have HZ := Lib.hid hsz
    have HM := Lib.hid hle
    unfold maxLen at hle
    clear hsz
    go_wp2_with fail
    go_ret
    exact ⟨_, rfl, World.ownsRow_made (w.drew) C cap (Nat.le_refl _) HM.out HZ.out, (Below.refl _ w).drew.alloc (Nat.le_refl _) _⟩

set_option maxRecDepth 100000 in
set_option maxHeartbeats 4000000 in
theorem concat_any (ps : List (Pt Pr)) (b c : Nat) (w : World) (h : Pm eP w b ps) (hn : (cat ps ps.length).length ≤ 1000000) (hps : ps.length ≤ 10) :
    Calls Tryz.prog 113 #[.slice (some ⟨b, 0, none⟩) ps.length c] w (OwnPost eP 97 w (cat ps ps.length)) := by
  have HP := Lib.hid h
  have hb := h.1
  have HC := Lib.hid (cat_le ps)
  have HS := Lib.hid (fun (k : Nat) (p : Pt Pr) (h : ps[k]? = some p) => cat_snoc h)
  obtain ⟨L, hL⟩ : ∃ L, ps.length = L := ⟨_, rfl⟩
  have HL := Lib.hid hL
  rw [hL] at hn hps HC ⊢
  clear hL h
  go_enter Tryz.func113, Tryz.ntmps113
  go_wp2_with fail
  go_loop [3, 11] (fun s i => ∃ k : Nat, i = .int .i64 k ∧ k ≤ L ∧ s = .int .i64 ((cat ps k).length : Nat)) (fun _ i => L - (intOf i).toNat)
  case atStart => exact ⟨0, rfl, by omega, by rw [cat_zero]; rfl⟩
  case round =>
    obtain ⟨k, rfl, hk, rfl⟩ := hrel
    have hkc := HC.out k
    by_cases hlt : k < L
    · obtain ⟨p, hp⟩ : ∃ p, ps[k]? = some p := ⟨_, List.getElem?_eq_getElem (by rw [HL.out]; exact hlt)⟩
      have k0 := (HP.out.2 k p hp).1
      have hkc1 := HC.out (k + 1)
      have HK := Lib.hid (HS.out _ _ hp)
      rw [HK.out, List.length_append] at hkc1
      obtain ⟨A, xs, pc⟩ := p
      dsimp only at k0 hkc1 HK
      have HX := Lib.hid (show (cat ps (k + 1)).length = (cat ps k).length + xs.length by rw [HK.out, List.length_append])
      generalize (cat ps k).length = N at *
      clear hp
      go_wp2_with fail
      go_round
      case rel => exact ⟨k + 1, by go_num, by omega, by rw [HX.out]; go_num⟩
      case measure => simp [intOf]; omega
    · obtain rfl : k = L := by omega
      have HG := Lib.hid (grow_any (cat ps k).length w hn)
      obtain ⟨N, hN⟩ : ∃ N, (cat ps k).length = N := ⟨_, rfl⟩
      have HN := Lib.hid hN
      rw [hN] at HG hn HC ⊢
      clear hN hkc
      go_wp2_with fail
      refine HG.out.mono ?_
      rintro e w1 ⟨v1, rfl, ho, hb1⟩
      have O1 := Lib.hid ho
      have B1 := Lib.hid hb1
      clear ho hb1
      go_wp2_with fail
      go_loopw [6, 27] (fun v i wr => ∃ q : Nat, i = .int .i64 q ∧ q ≤ k ∧ Hid (wr.ownsRow w.heap.size 97 5 v (cat ps q).length (eP.cs (cat ps q)) ∧ Below w.heap.size w wr)) (fun _ i _ => k - (intOf i).toNat)
      case atStart => exact ⟨0, rfl, by omega, Lib.hid ⟨by rw [cat_zero]; exact O1.out, B1.out⟩⟩
      case round =>
        obtain ⟨q, rfl, hq, HR⟩ := hrel
        by_cases hlt : q < k
        · obtain ⟨p, hp⟩ : ∃ p, ps[q]? = some p := ⟨_, List.getElem?_eq_getElem (by rw [HL.out]; exact hlt)⟩
          obtain ⟨k0, kH⟩ := HP.out.2 q p hp
          have k1 : wr.cell? ⟨b, q, none⟩ = some (.slice p.A p.xs.length p.c) := by rw [HR.out.2.cell (p := ⟨b, q, none⟩) hb]; exact k0
          have kH1 := kH.below HR.out.2
          have hkc1 := HC.out (q + 1)
          have HK := Lib.hid (HS.out _ _ hp)
          rw [HK.out, List.length_append] at hkc1
          have hlen : (cat ps q).length + p.xs.length ≤ 1000000000000 := by omega
          obtain ⟨A, xs, pc⟩ := p
          dsimp only at k1 kH1 hkc1 HK hlen
          have hbase : w.heap.size ≤ wr.heap.size := HR.out.2.size
          have ho := HR.out.1
          have HH := Lib.hid kH1
          clear hp k0 kH kH1
          go_wp2_with (at_builtin; refine wpList_append_rw tP _ rfl (.tmp 31) (.tmp 32) rfl w.heap.size _ _ _ (by simp [Act.eval, Act.put]) ho A xs.length pc xs (by simp [Act.eval, Act.put]) rfl HH.out hlen hbase ?_)
          intro v2 w2 ho2 hg2
          have O2 := Lib.hid ho2
          have B2 := Lib.hid (HR.out.2.grown hg2 hbase (fun j hj => (ho.lt j hj).1))
          clear ho2 hg2 ho
          go_wp2_with fail
          go_roundw
          case rel => exact ⟨q + 1, by go_num, by omega, Lib.hid ⟨by rw [HK.out, List.length_append]; exact O2.out, B2.out⟩⟩
          case measure => simp [intOf]; omega
        · obtain rfl : q = k := by omega
          go_wp2_with fail
          go_ret
          exact ⟨_, rfl, HR.out.1, HR.out.2⟩

end Go.Proofs.YtilneflfeegnfaaGreat.Pb

/-
  The contracts of clock.Clamp and clock.Since, of probe.idOf, and of the statements' own address and choice; a choice in memory. Conditions: bytes are bytes.
-/
set_option linter.unusedSimpArgs false
set_option linter.unusedVariables false
namespace Go.Proofs.YtilneflfeegnfaaGreat.Pb
open Go.RowKit

/-- The ID of each question to an address. -/
theorem idOf_any (a : Int) (w : World) : Calls Tryz.prog 123 #[.int .u32 a] w fun e w' => e = .returned (.int .i64 (a % 65536)) ∧ w = w' := by
  have h : wrap64 (IntKind.u16.wrap a) = a % 65536 := by rw [IntKind.wrap_u16]; unfold wrap64; omega
  go_enter Tryz.func123, Tryz.ntmps123
  go_wp2
  go_ret
  exact ⟨ret_int h, rfl⟩

end Go.Proofs.YtilneflfeegnfaaGreat.Pb

/-
  Questions, packets and nine bytes in a variable of one's own; cells of a row's elements; the contracts of probe.Of and probe.Packet. Conditions: bytes are bytes.
-/
set_option linter.unusedSimpArgs false
set_option linter.unusedVariables false
namespace Go.Proofs.YtilneflfeegnfaaGreat.Pb
open Go.RowKit

/-- A variable of one's own that may be written. -/
def Qb (w : World) (b : Nat) (x : Pr) : Prop := w.rangeAt b 0 (prl x) ∧ w.there b 0 5
theorem Qb.key {w : World} {b : Nat} {x : Pr} (h : Qb w b x) : ∀ j v, (prl x)[j]? = some v → w.cell? ⟨b, j, none⟩ = some v := fun j v hv => by
  have := h.1 j v hv
  rwa [Nat.zero_add] at this
theorem Qb.at {w : World} {b : Nat} {x : Pr} (h : Qb w b x) : ∀ j v, (prl x)[j]? = some v → w.cell? ((⟨b, 0, none⟩ : Addr).add j) = some v := fun j v hv => by
  rw [Addr.add_mid, Nat.zero_add]
  exact h.key j v hv
theorem Qb.lt {w : World} {b : Nat} {x : Pr} (h : Qb w b x) : b < w.heap.size := World.block_lt_of_cell? _ _ (h.key 0 _ rfl)
theorem prl_one (x : Pr) : (prl x).toArray.all (·.oneCell') = true := by simp [prl, Value.oneCell']
theorem five {k : Nat} (h : k < 5) : k = 0 ∨ k = 1 ∨ k = 2 ∨ k = 3 ∨ k = 4 := by omega
theorem qb_box (w : World) (x : Pr) : Qb (w.alloc (Prx x)) w.heap.size x := by
  have h : (w.alloc (Prx x)).heap[w.heap.size]? = some (Prx x) := heap_alloc_new w _
  have e : ∀ j, (w.alloc (Prx x)).cell? ⟨w.heap.size, j, none⟩ = _ := fun j => cell_of_row _ _ _ _ _ _ h
  refine ⟨fun j v hv => ?_, fun j hj => ⟨?_, ?_⟩⟩
  · rw [e, Nat.zero_add, ← hv]
    simp [prl]
  · rw [e, Nat.zero_add]
    rcases five hj with rfl | rfl | rfl | rfl | rfl <;> rfl
  · unfold World.frozen?
    rw [h]
    simp [Prx]
theorem Qb.keep {w w' : World} {b B : Nat} {x : Pr} (h : Qb w b x) (hb : Below B w w') (hB : b < B) : Qb w' b x :=
  ⟨fun j v hv => by rw [hb.cell (p := ⟨b, 0 + j, none⟩) hB]; exact h.1 j v hv, fun j hj => ⟨by rw [hb.cell (p := ⟨b, 0 + j, none⟩) hB]; exact (h.2 j hj).1, by rw [hb.frozen (p := ⟨b, 0 + j, none⟩) hB]; exact (h.2 j hj).2⟩⟩
theorem Qb.below {w w' : World} {b : Nat} {x : Pr} (h : Qb w b x) (hb : Below w.heap.size w w') : Qb w' b x := h.keep hb h.lt
theorem Qb.drewN {w : World} {b : Nat} {x : Pr} (h : Qb w b x) (n : Nat) : Qb (w.drewN n) b x := h.below (bdrewN (Below.refl _ _) n)
theorem Qb.put {w : World} {b : Nat} {x : Pr} (h : Qb w b x) (y : Pr) : Qb (w.setCells b 0 (prl y)) b y :=
  ⟨World.rangeAt_setCells_same w b 0 (prl y) h.2, World.there_setCells h.2 b 0 (prl y)⟩
theorem loadv37 {w : World} {b : Nat} {x : Pr} (h : Qb w b x) : (loadVar 97 ⟨b, 0, none⟩).run Tryz.prog w = .ok (prv x) w := run_loadVar_mid w b 0 97 (prl x) _ h.1 Tryz.underlying97 rfl size37
theorem at_store37 {ops : Array Oper} {rest : List Oper} {o : Oper} {a : Act} {w : World} {Q : Exit → Act → World → Prop} (x y : Operand) (b : Nat) (p q : Pr) (H : Qb w b p) (hgd : o.guard = none) (ho : o.op = .store 97 x y) (hx : a.eval x = .pointer (some ⟨b, 0, none⟩)) (hy : a.eval y = prv q)
    (h : ∀ w', Hid (Qb w' b q) → Hid (∀ B, B ≤ b → Below B w w') → Hid (∀ k, k ≠ b → w'.heap[k]? = w.heap[k]?) → wpList Tryz.prog ops Q rest (a.put o.dst undef) w') : wpList Tryz.prog ops Q (o :: rest) a w :=
  wpList_store_mid hgd 97 x y ho b 0 (prl q).toArray hx hy H.2 size37 (prl_one q) (h _ (H.put q) (fun _ hB => below_put hB _ _ _ (Below.refl _ _)) (cells_of37 b _ _ _))

/-- A variable of one's own that may be written. -/
def Kb (w : World) (b : Nat) (x : Pk) : Prop := w.rangeAt b 0 (pkl x) ∧ w.there b 0 11
theorem Kb.key {w : World} {b : Nat} {x : Pk} (h : Kb w b x) : ∀ j v, (pkl x)[j]? = some v → w.cell? ⟨b, j, none⟩ = some v := fun j v hv => by
  have := h.1 j v hv
  rwa [Nat.zero_add] at this
theorem Kb.at {w : World} {b : Nat} {x : Pk} (h : Kb w b x) : ∀ j v, (pkl x)[j]? = some v → w.cell? ((⟨b, 0, none⟩ : Addr).add j) = some v := fun j v hv => by
  rw [Addr.add_mid, Nat.zero_add]
  exact h.key j v hv
theorem Kb.lt {w : World} {b : Nat} {x : Pk} (h : Kb w b x) : b < w.heap.size := World.block_lt_of_cell? _ _ (h.key 0 _ rfl)
theorem pkl_one (x : Pk) : (pkl x).toArray.all (·.oneCell') = true := by simp [pkl, Value.oneCell']
theorem eleven {k : Nat} (h : k < 11) : k = 0 ∨ k = 1 ∨ k = 2 ∨ k = 3 ∨ k = 4 ∨ k = 5 ∨ k = 6 ∨ k = 7 ∨ k = 8 ∨ k = 9 ∨ k = 10 := by omega
theorem kb_box (w : World) (x : Pk) : Kb (w.alloc (Pkx x)) w.heap.size x := by
  have h : (w.alloc (Pkx x)).heap[w.heap.size]? = some (Pkx x) := heap_alloc_new w _
  have e : ∀ j, (w.alloc (Pkx x)).cell? ⟨w.heap.size, j, none⟩ = _ := fun j => cell_of_row _ _ _ _ _ _ h
  refine ⟨fun j v hv => ?_, fun j hj => ⟨?_, ?_⟩⟩
  · rw [e, Nat.zero_add, ← hv]
    simp [pkl]
  · rw [e, Nat.zero_add]
    rcases eleven hj with rfl | rfl | rfl | rfl | rfl | rfl | rfl | rfl | rfl | rfl | rfl <;> rfl
  · unfold World.frozen?
    rw [h]
    simp [Pkx]
theorem Kb.keep {w w' : World} {b B : Nat} {x : Pk} (h : Kb w b x) (hb : Below B w w') (hB : b < B) : Kb w' b x :=
  ⟨fun j v hv => by rw [hb.cell (p := ⟨b, 0 + j, none⟩) hB]; exact h.1 j v hv, fun j hj => ⟨by rw [hb.cell (p := ⟨b, 0 + j, none⟩) hB]; exact (h.2 j hj).1, by rw [hb.frozen (p := ⟨b, 0 + j, none⟩) hB]; exact (h.2 j hj).2⟩⟩
theorem Kb.below {w w' : World} {b : Nat} {x : Pk} (h : Kb w b x) (hb : Below w.heap.size w w') : Kb w' b x := h.keep hb h.lt
theorem Kb.drewN {w : World} {b : Nat} {x : Pk} (h : Kb w b x) (n : Nat) : Kb (w.drewN n) b x := h.below (bdrewN (Below.refl _ _) n)
theorem Kb.put {w : World} {b : Nat} {x : Pk} (h : Kb w b x) (y : Pk) : Kb (w.setCells b 0 (pkl y)) b y :=
  ⟨World.rangeAt_setCells_same w b 0 (pkl y) h.2, World.there_setCells h.2 b 0 (pkl y)⟩
theorem loadv44 {w : World} {b : Nat} {x : Pk} (h : Kb w b x) : (loadVar 103 ⟨b, 0, none⟩).run Tryz.prog w = .ok (pkv x) w := run_loadVar_mid w b 0 103 (pkl x) _ h.1 Tryz.underlying103 rfl size44
theorem cells_of44 (b : Nat) : ∀ (us : List Value) (o : Nat) (w : World) (k : Nat), k ≠ b → (w.setCells b o us).heap[k]? = w.heap[k]?
  | [], _, _, _, _ => rfl
  | u :: r, o, w, k, h => (cells_of44 b r (o + 1) _ k h).trans (heap_setCell_other w ⟨b, o, none⟩ k u h)
theorem at_store44 {ops : Array Oper} {rest : List Oper} {o : Oper} {a : Act} {w : World} {Q : Exit → Act → World → Prop} (x y : Operand) (b : Nat) (p q : Pk) (H : Kb w b p) (hgd : o.guard = none) (ho : o.op = .store 103 x y) (hx : a.eval x = .pointer (some ⟨b, 0, none⟩)) (hy : a.eval y = pkv q)
    (h : ∀ w', Hid (Kb w' b q) → Hid (∀ B, B ≤ b → Below B w w') → Hid (∀ k, k ≠ b → w'.heap[k]? = w.heap[k]?) → wpList Tryz.prog ops Q rest (a.put o.dst undef) w') : wpList Tryz.prog ops Q (o :: rest) a w :=
  wpList_store_mid hgd 103 x y ho b 0 (pkl q).toArray hx hy H.2 size44 (pkl_one q) (h _ (H.put q) (fun _ hB => below_put hB _ _ _ (Below.refl _ _)) (cells_of44 b _ _ _))

theorem Qb.c {w : World} {b : Nat} {x : Pr} (h : Qb w b x) : w.cell? ⟨b, 0, none⟩ = some (.int .u32 x.a) ∧ w.cell? ⟨b, 1, none⟩ = some (.int .i64 x.i) ∧ w.cell? ⟨b, 2, none⟩ = some (.int .i64 x.s) ∧ w.cell? ⟨b, 3, none⟩ = some (.int .i64 x.t) ∧ w.cell? ⟨b, 4, none⟩ = some (.int .i64 x.n) := ⟨h.key 0 _ rfl, h.key 1 _ rfl, h.key 2 _ rfl, h.key 3 _ rfl, h.key 4 _ rfl⟩
theorem Kb.c {w : World} {b : Nat} {x : Pk} (h : Kb w b x) : w.cell? ⟨b, 0, none⟩ = some (.bool x.a) ∧ w.cell? ⟨b, 1, none⟩ = some (.int .u32 x.f) ∧ w.cell? ⟨b, 9, none⟩ = some (.int .i64 x.i) ∧ w.cell? ⟨b, 10, none⟩ = some (.int .i64 x.s) := ⟨h.key 0 _ rfl, h.key 1 _ rfl, h.key 9 _ rfl, h.key 10 _ rfl⟩
theorem pr_box (w : World) (x : Pr) : (w.alloc (Prx x)).cell? ⟨w.heap.size, 0, none⟩ = some (.int .u32 x.a) ∧ (w.alloc (Prx x)).cell? ⟨w.heap.size, 1, none⟩ = some (.int .i64 x.i) ∧ (w.alloc (Prx x)).cell? ⟨w.heap.size, 2, none⟩ = some (.int .i64 x.s) ∧ (w.alloc (Prx x)).cell? ⟨w.heap.size, 3, none⟩ = some (.int .i64 x.t) ∧ (w.alloc (Prx x)).cell? ⟨w.heap.size, 4, none⟩ = some (.int .i64 x.n) := (qb_box w x).c
/-- The question to an address. -/
def ofP (a seq now : Int) : Pr := ⟨a, a % 65536, seq % 65536, cl now, 0⟩
set_option maxRecDepth 100000 in
set_option maxHeartbeats 2000000 in
theorem of_any (a s n : Int) (w : World) : Calls Tryz.prog 102 #[.int .u32 a, .int .i64 s, .int .i64 n] w fun e w' => e = .returned (prv (ofP a s n)) ∧ Below w.heap.size w w' := by
  have P0 := Lib.hid (qb_box w zr)
  have B0 := Lib.hid ((Below.refl w.heap.size w).alloc (Nat.le_refl _) (Prx zr))
  have C1 := Lib.hid fun W => idOf_any a W
  have C2 := Lib.hid fun W => clamp_any n W
  have h16 : wrap64 (IntKind.u16.wrap s) = s % 65536 := by rw [IntKind.wrap_u16]; unfold wrap64; omega
  go_enter Tryz.func102, Tryz.ntmps102
  go_wp2_with fail
  refine (C1.out _).mono ?_
  rintro e w1 ⟨rfl, rfl⟩
  go_wp2_with fail
  refine (C2.out _).mono ?_
  rintro e w1 ⟨rfl, rfl⟩
  go_wp2_with (refine at_store37 _ _ _ zr (ofP a s n) P0.out rfl rfl rfl rfl ?_; intro w2 P2 B2 G2)
  refine bodyPost_ret (results_cell rfl _ _ _ _ rfl (loadv37 P2.out)) rfl ?_
  exact ⟨rfl, B0.out.trans (B2.out _ (Nat.le_refl _))⟩
/-- What a question is sent as. -/
def pkO (x : Pr) : Pk := ⟨false, 0, x.a, 0, 0, 0, 0, 0, 0, x.i, x.s⟩
set_option maxRecDepth 100000 in
set_option maxHeartbeats 2000000 in
theorem packet_any (x : Pr) (w : World) : Calls Tryz.prog 101 #[prv x] w fun e w' => e = .returned (pkv (pkO x)) ∧ Below w.heap.size w w' := by
  have P0 := Lib.hid (kb_box (w.alloc (Prx x)) zk)
  have B0 := Lib.hid (((Below.refl w.heap.size w).alloc (Nat.le_refl _) (Prx x)).alloc (by simp) (Pkx zk))
  rw [World.size_alloc] at P0
  unfold prv
  go_enter Tryz.func101, Tryz.ntmps101
  go_wp2_with (refine at_store44 _ _ _ zk (pkO x) P0.out rfl rfl rfl rfl ?_; intro w2 P2 B2 G2)
  refine bodyPost_ret (results_cell rfl _ _ _ _ rfl (loadv44 P2.out)) rfl ?_
  exact ⟨rfl, B0.out.trans (B2.out _ (by omega))⟩
section
variable {ops : Array Oper} {rest : List Oper} {o : Oper} {a : Act} {C : World → Prop} {Q : Act → Prop}
end

theorem rw_lt {α : Type} {E : El α} {w : World} {A : Option Addr} {xs : List α} (h : Rw E w A xs) : ∀ y, A = some y → 0 < xs.length → y.block < w.heap.size := fun y hy hp => by
  obtain ⟨y', hy', hc⟩ := h.2 0 xs[0] (List.getElem?_eq_getElem hp)
  rw [hy] at hy'
  obtain rfl := Option.some.inj hy'
  have hN := E.pos
  have hl := E.len xs[0]
  have hv : (E.cl xs[0])[0]? = some (E.cl xs[0])[0] := List.getElem?_eq_getElem (by omega)
  have := World.block_lt_of_cell? _ _ (hc 0 _ hv)
  rwa [add_block] at this
/-- Nine bytes that lie there. -/
def Hm (W : World) (b : Nat) (x : Hc) : Prop := ∀ j v, (hl x)[j]? = some v → W.cell? ((⟨b, 0, none⟩ : Addr).add j) = some v
theorem Hm.lt {W : World} {b : Nat} {x : Hc} (h : Hm W b x) : b < W.heap.size := by
  have := World.block_lt_of_cell? _ _ (h 0 _ rfl)
  rwa [add_block] at this
theorem Hm.below {W W' : World} {b : Nat} {x : Hc} (h : Hm W b x) (hb : Below W.heap.size W W') : Hm W' b x := fun j v hv => by
  rw [hb.cell (by rw [add_block]; exact h.lt)]
  exact h j v hv

theorem rw_c0 {w : World} {y : Addr} {xs : List Pr} (R : Rw eP w (some y) xs) {k : Nat} {x : Pr} (hx : xs[k]? = some x) : w.cell? (y.add (k * 5)) = some (.int .u32 x.a) ∧ w.cell? (y.add (k * 5 + 1)) = some (.int .i64 x.i) ∧ w.cell? (y.add (k * 5 + 2)) = some (.int .i64 x.s) ∧ w.cell? (y.add (k * 5 + 3)) = some (.int .i64 x.t) ∧ w.cell? (y.add (k * 5 + 4)) = some (.int .i64 x.n) := by
  obtain ⟨y', hy, hc⟩ := R.2 k x hx
  injection hy with hy
  subst hy
  exact ⟨hc 0 _ rfl, hc 1 _ rfl, hc 2 _ rfl, hc 3 _ rfl, hc 4 _ rfl⟩
theorem rw_f {w : World} {y : Addr} {xs : List Pr} (R : Rw eP w (some y) xs) {k : Nat} {x : Pr} (hx : xs[k]? = some x) : w.cell? ⟨(y.add (k * 5)).block, (y.add (k * 5)).off + 2, none⟩ = some (.int .i64 x.s) := by
  obtain ⟨-, -, h2, -, -⟩ := rw_c0 R hx
  have e : ∀ j, 0 < j → (⟨(y.add (k * 5)).block, (y.add (k * 5)).off + j, none⟩ : Addr) = y.add (k * 5 + j) := fun j hj => by
    rw [← Addr.add_add]
    generalize y.add (k * 5) = z
    unfold Addr.add
    rw [if_neg (by omega)]
  rw [e 2 (by omega)]; exact h2
theorem at_of_lt {xs : List Pr} {k : Nat} (h : k < xs.length) : ∃ x, xs[k]? = some x := ⟨_, List.getElem?_eq_getElem h⟩
theorem run_sl29 (A : Option Addr) (n c i : Nat) (hi : i ≤ c) (W : World) : (Instr.slice 32 (.slice A n c) none (some (.int .i64 (i : Int))) none).run Tryz.prog W = .ok (.slice A i c) W := by
  have h1 : (i : Int) ≤ c := by omega
  have h2 : A.map (·.add (0 * 5)) = A := by cases A <;> simp [Addr.add]
  unfold Instr.slice Instr.sliceBounds Instr.sliceBound
  simp only [Sem.run_bind, run_underlying Tryz.underlying32, Result.andThen_ok, Sem.run_pure, run_size37, asIntOf]
  try simp only [Option.isSome_none, Bool.false_eq_true, if_false, Sem.run_bind, Sem.run_pure, Result.andThen_ok]
  rw [if_pos ⟨by omega, h1⟩]
  simp only [Sem.run_bind, Sem.run_pure, Result.andThen_ok, h2, ite_self, Nat.sub_zero, Int.toNat_natCast]
theorem run_sl29l (A : Option Addr) (n c k : Nat) (hk : k ≤ n) (hc : n ≤ c) (W : World) : (Instr.slice 32 (.slice A n c) (some (.int .i64 (k : Int))) none none).run Tryz.prog W = .ok (.slice (dA 5 A c k) (n - k) (c - k)) W := by
  have h1 : (k : Int) ≤ n := by omega
  unfold Instr.slice Instr.sliceBounds Instr.sliceBound
  simp only [Sem.run_bind, run_underlying Tryz.underlying32, Result.andThen_ok, Sem.run_pure, run_size37, asIntOf]
  try simp only [Option.isSome_none, Bool.false_eq_true, if_false, Sem.run_bind, Sem.run_pure, Result.andThen_ok]
  rw [if_pos ⟨by omega, h1⟩]
  simp only [Sem.run_bind, Sem.run_pure, Result.andThen_ok, Int.toNat_natCast]
  rfl
end Go.Proofs.YtilneflfeegnfaaGreat.Pb

/-
  The contracts of probe.anyTo, probe.place and probe.rightProbe. Conditions: the row lies in memory.
-/
set_option linter.unusedSimpArgs false
set_option linter.unusedVariables false
namespace Go.Proofs.YtilneflfeegnfaaGreat.Pb
open Go.RowKit

/-- Whether a question of a row is to this address. -/
def toB (xs : List Pr) (a : Int) : Bool := xs.any fun x => x.a == a
theorem to_take {xs : List Pr} {a : Int} {k : Nat} {x : Pr} (hx : xs[k]? = some x) : toB (xs.take (k + 1)) a = (toB (xs.take k) a || (x.a == a)) := by
  unfold toB
  rw [List.take_add_one, hx]
  simp
theorem to_yes {xs : List Pr} {a : Int} {k : Nat} {x : Pr} (hx : xs[k]? = some x) (h : (x.a == a) = true) : toB xs a = true := List.any_eq_true.2 ⟨x, List.mem_of_getElem? hx, h⟩

set_option maxRecDepth 100000 in
set_option maxHeartbeats 2000000 in
theorem anyTo_any (a : Int) (A : Option Addr) (xs : List Pr) (cap : Nat) (w : World) (h : Rw eP w A xs) :
    Calls Tryz.prog 89 #[.slice A xs.length cap, .int .u32 a] w fun e w' => e = .returned (.bool (toB xs a)) ∧ Below w.heap.size w w' := by
  have hln := h.1
  have R := Lib.hid h
  clear h
  obtain ⟨L, hL⟩ : ∃ L, xs.length = L := ⟨_, rfl⟩
  have HL := Lib.hid hL
  rw [hL] at hln ⊢
  clear hL
  go_enter Tryz.func89, Tryz.ntmps89
  go_wp2_with fail
  go_loopw [9] (fun i wr => ∃ k : Nat, i = .int .i64 k ∧ k ≤ L ∧ Hid (Below w.heap.size w wr) ∧ Hid (toB (xs.take k) a = false)) (fun i _ => L - (intOf i).toNat)
  case atStart => exact ⟨0, rfl, by omega, Lib.hid (Below.refl _ _), Lib.hid (by simp [toB])⟩
  case round =>
    obtain ⟨k, rfl, hk, HW, HF⟩ := hrel
    by_cases hkL : k < L
    · obtain ⟨x, hx⟩ := at_of_lt (xs := xs) (k := k) (by rw [HL.out]; exact hkL)
      obtain ⟨y, rfl⟩ := rw_some R.out (by rw [HL.out]; omega)
      have hat := (R.out.below HW.out).at hx
      have HX := Lib.hid hx
      have B1 := Lib.hid (show Below w.heap.size w (wr.alloc (Prx x)) from HW.out.alloc HW.out.size _)
      unfold Prx at *
      clear hx
      cases he : (x.a == a)
      · have HE := Lib.hid he
        go_wp2_with (refine at_load37 (.tmp 11) rfl rfl (y.add (k * 5)) x rfl hat ?_)
        go_roundw
        case rel => exact ⟨k + 1, by go_num, by omega, B1, Lib.hid (by rw [to_take HX.out, HF.out, HE.out]; rfl)⟩
        case measure => simp [intOf]; omega
      · have HE := Lib.hid he
        go_wp2_with (refine at_load37 (.tmp 11) rfl rfl (y.add (k * 5)) x rfl hat ?_)
        go_ret
        exact ⟨by rw [to_yes HX.out HE.out]; rfl, B1.out⟩
    · obtain rfl : k = L := by omega
      go_wp2_with fail
      go_ret
      exact ⟨by rw [show toB xs a = false by rw [← HF.out, List.take_of_length_le (by rw [HL.out]; exact Nat.le_refl _)]]; rfl, HW.out⟩

/-- Whether a packet answers a question. -/
def mt (p : Pk) (x : Pr) : Bool := p.a && ((x.a == p.f) && ((x.i == p.i) && (x.s == p.s)))
/-- Where the first question stands that a packet answers. -/
def plc (p : Pk) (xs : List Pr) : Option Nat := xs.findIdx? (mt p)
def plI (o : Option Nat) : Int := match o with
  | some k => (k : Int)
  | none => 0
def plB (o : Option Nat) : Bool := match o with
  | some _ => true
  | none => false
theorem plc_take {p : Pk} {xs : List Pr} {k : Nat} {x : Pr} (h : plc p (xs.take k) = none) (hx : xs[k]? = some x) : plc p (xs.take (k + 1)) = if mt p x = true then some k else none := by
  unfold plc at *
  have hl : (xs.take k).length = k := by rw [List.length_take]; have := (List.getElem?_eq_some_iff.1 hx).1; omega
  rw [List.take_add_one, hx, List.findIdx?_append, h]
  simp only [Option.toList_some, Option.none_or, List.findIdx?_cons, List.findIdx?_nil, hl]
  split <;> simp
theorem plc_found {p : Pk} {xs : List Pr} {k : Nat} {x : Pr} (h : plc p (xs.take k) = none) (hx : xs[k]? = some x) (hm : mt p x = true) : plc p xs = some k := by
  have h2 := plc_take h hx
  rw [if_pos hm] at h2
  unfold plc at *
  have e : xs = xs.take (k + 1) ++ xs.drop (k + 1) := (List.take_append_drop _ _).symm
  rw [e, List.findIdx?_append, h2]
  rfl
theorem plc_lt {p : Pk} {xs : List Pr} {k : Nat} (h : plc p xs = some k) : k < xs.length := by
  unfold plc at h
  obtain ⟨h1, _⟩ := List.findIdx?_eq_some_iff_getElem.1 h
  exact h1

end Go.Proofs.YtilneflfeegnfaaGreat.Pb

/-
  The contract of probe.rightProbe. No condition.
-/
set_option linter.unusedSimpArgs false
set_option linter.unusedVariables false
namespace Go.Proofs.YtilneflfeegnfaaGreat.Pb
open Go.RowKit

/-- Whether a question is right, alone. -/
def rqB (x : Pr) : Bool := decide (x.i = x.a % 65536) && decide (0 ≤ x.s) && decide (x.s ≤ 65535) && decide (x.t = cl x.t) && decide (0 ≤ x.n) && decide (x.n ≤ 8)

set_option maxRecDepth 100000 in
set_option maxHeartbeats 8000000 in
theorem rightProbe_any (x : Pr) (w : World) :
    Calls Tryz.prog 88 #[prv x] w fun e w' => e = .returned (.bool (rqB x)) ∧ Below w.heap.size w w' := by
  obtain ⟨a, i, s, t, n⟩ := x
  obtain ⟨k0, k1, k2, k3, k4⟩ := pr_box w ⟨a, i, s, t, n⟩
  have HB := Lib.hid (show Below w.heap.size w (w.alloc (Prx ⟨a, i, s, t, n⟩)) from (Below.refl _ w).alloc (Nat.le_refl _) _)
  have hs : w.heap.size < (w.alloc (Prx ⟨a, i, s, t, n⟩)).heap.size := by simp
  have HRQ := Lib.hid (show rqB ⟨a, i, s, t, n⟩ = (decide (i = a % 65536) && decide (0 ≤ s) && decide (s ≤ 65535) && decide (t = cl t) && decide (0 ≤ n) && decide (n ≤ 8)) from rfl)
  unfold prv Prx at *
  dsimp only at *
  go_enter Tryz.func88, Tryz.ntmps88
  go_wp2_with fail
  generalize w.alloc (.cells #[.int .u32 a, .int .i64 i, .int .i64 s, .int .i64 t, .int .i64 n] 97) = W at *
  have r0 := cell_regrown k0
  have r1 := cell_regrown k1
  have r2 := cell_regrown k2
  have r3 := cell_regrown k3
  have r4 := cell_regrown k4
  clear k0 k1 k2 k3 k4
  have HC := Lib.hid fun d' os => Calls.regrown_of (d := d') (os := os) ((clamp_any t (Sort.grow (redrawn W d') os)).mono fun _ _ ⟨he, hw⟩ => ⟨he, by rw [hw]; exact Below.refl _ _⟩)
  have HI := Lib.hid fun d' os => Calls.regrown_of (d := d') (os := os) ((idOf_any a (Sort.grow (redrawn W d') os)).mono fun _ _ ⟨he, hw⟩ => ⟨he, by rw [hw]; exact Below.refl _ _⟩)
  generalize a % 65536 = C at *
  generalize cl t = D at *
  by_cases h1 : i = C
  · have e0 : (i == C) = true := by simpa using h1
    have H0 := Lib.hid h1
    clear h1
    by_cases h2 : 0 ≤ s
    · by_cases h3 : s ≤ 65535
      · by_cases h4 : t = D
        · have e3 : (t == D) = true := by simpa using h4
          have H3 := Lib.hid h4
          clear h4
          by_cases h5 : 0 ≤ n
          · by_cases h6 : n ≤ 8
            · have HF := Lib.hid (show rqB ⟨a, i, s, t, n⟩ = true by rw [HRQ.out]; simp [H0.out, h2, h3, H3.out, h5, h6])
              refine wp_region_quiet_below (by kernel_rfl) (by kernel_rfl) ?_
              repeat (go_big_quiet_step (first | (go_at_call 123; exact HI.out _ _) | (go_at_call 79; exact HC.out _ _)))
              refine wpQuiet_nil ?_
              intro _ hw'
              obtain ⟨⟨dq, osq⟩, hw''⟩ := hw'
              subst hw''
              go_wp2
              go_ret
              exact ⟨by rw [HF.out]; rfl, HB.out.trans ((below_regrown _ dq osq).mono HB.out.size)⟩
            · have h6' : decide (n ≤ 8) = false := decide_eq_false h6
              have HF := Lib.hid (show rqB ⟨a, i, s, t, n⟩ = false by rw [HRQ.out]; simp [h6])
              refine wp_region_quiet_below (by kernel_rfl) (by kernel_rfl) ?_
              repeat (go_big_quiet_step (first | (go_at_call 123; exact HI.out _ _) | (go_at_call 79; exact HC.out _ _)))
              refine wpQuiet_nil ?_
              intro _ hw'
              obtain ⟨⟨dq, osq⟩, hw''⟩ := hw'
              subst hw''
              go_wp2
              go_ret
              exact ⟨by rw [HF.out]; rfl, HB.out.trans ((below_regrown _ dq osq).mono HB.out.size)⟩
          · have h5' : decide (0 ≤ n) = false := decide_eq_false h5
            have HF := Lib.hid (show rqB ⟨a, i, s, t, n⟩ = false by rw [HRQ.out]; simp [h5])
            refine wp_region_quiet_below (by kernel_rfl) (by kernel_rfl) ?_
            repeat (go_big_quiet_step (first | (go_at_call 123; exact HI.out _ _) | (go_at_call 79; exact HC.out _ _)))
            refine wpQuiet_nil ?_
            intro _ hw'
            obtain ⟨⟨dq, osq⟩, hw''⟩ := hw'
            subst hw''
            go_wp2
            go_ret
            exact ⟨by rw [HF.out]; rfl, HB.out.trans ((below_regrown _ dq osq).mono HB.out.size)⟩
        · have e3 : (t == D) = false := by simpa using h4
          have HF := Lib.hid (show rqB ⟨a, i, s, t, n⟩ = false by rw [HRQ.out]; simp [h4])
          refine wp_region_quiet_below (by kernel_rfl) (by kernel_rfl) ?_
          repeat (go_big_quiet_step (first | (go_at_call 123; exact HI.out _ _) | (go_at_call 79; exact HC.out _ _)))
          refine wpQuiet_nil ?_
          intro _ hw'
          obtain ⟨⟨dq, osq⟩, hw''⟩ := hw'
          subst hw''
          go_wp2
          go_ret
          exact ⟨by rw [HF.out]; rfl, HB.out.trans ((below_regrown _ dq osq).mono HB.out.size)⟩
      · have h3' : decide (s ≤ 65535) = false := decide_eq_false h3
        have HF := Lib.hid (show rqB ⟨a, i, s, t, n⟩ = false by rw [HRQ.out]; simp [h3])
        refine wp_region_quiet_below (by kernel_rfl) (by kernel_rfl) ?_
        repeat (go_big_quiet_step (first | (go_at_call 123; exact HI.out _ _) | (go_at_call 79; exact HC.out _ _)))
        refine wpQuiet_nil ?_
        intro _ hw'
        obtain ⟨⟨dq, osq⟩, hw''⟩ := hw'
        subst hw''
        go_wp2
        go_ret
        exact ⟨by rw [HF.out]; rfl, HB.out.trans ((below_regrown _ dq osq).mono HB.out.size)⟩
    · have h2' : decide (0 ≤ s) = false := decide_eq_false h2
      have HF := Lib.hid (show rqB ⟨a, i, s, t, n⟩ = false by rw [HRQ.out]; simp [h2])
      refine wp_region_quiet_below (by kernel_rfl) (by kernel_rfl) ?_
      repeat (go_big_quiet_step (first | (go_at_call 123; exact HI.out _ _) | (go_at_call 79; exact HC.out _ _)))
      refine wpQuiet_nil ?_
      intro _ hw'
      obtain ⟨⟨dq, osq⟩, hw''⟩ := hw'
      subst hw''
      go_wp2
      go_ret
      exact ⟨by rw [HF.out]; rfl, HB.out.trans ((below_regrown _ dq osq).mono HB.out.size)⟩
  · have e0 : (i == C) = false := by simpa using h1
    have HF := Lib.hid (show rqB ⟨a, i, s, t, n⟩ = false by rw [HRQ.out]; simp [h1])
    refine wp_region_quiet_below (by kernel_rfl) (by kernel_rfl) ?_
    repeat (go_big_quiet_step (first | (go_at_call 123; exact HI.out _ _) | (go_at_call 79; exact HC.out _ _)))
    refine wpQuiet_nil ?_
    intro _ hw'
    obtain ⟨⟨dq, osq⟩, hw''⟩ := hw'
    subst hw''
    go_wp2
    go_ret
    exact ⟨by rw [HF.out]; rfl, HB.out.trans ((below_regrown _ dq osq).mono HB.out.size)⟩
end Go.Proofs.YtilneflfeegnfaaGreat.Pb

/-
  The contracts of probe.Put and probe.Match. Conditions: the row lies in memory, and has up to 900 questions.
-/
set_option linter.unusedSimpArgs false
set_option linter.unusedVariables false
namespace Go.Proofs.YtilneflfeegnfaaGreat.Pb
open Go.RowKit

/-- The parts, in a row of their own. -/
def pF (ps : List (Pt Pr)) : Value → World → Prop := fun v W => ∃ b, v = .slice (some ⟨b, 0, none⟩) ps.length ps.length ∧ Pm eP W b ps
theorem Pm.below {w w' : World} {b : Nat} {ps : List (Pt Pr)} (h : Pm eP w b ps) (hb : Below w.heap.size w w') : Pm eP w' b ps :=
  ⟨Nat.lt_of_lt_of_le h.1 hb.size, fun k p hp => ⟨by rw [hb.cell (p := ⟨b, k, none⟩) h.1]; exact (h.2 k p hp).1, (h.2 k p hp).2.below hb⟩⟩
theorem stable_pF (ps : List (Pt Pr)) : Stable (pF ps) := fun _ _ _ ⟨b, hv, hP⟩ hb => ⟨b, hv, Pm.below hP hb⟩
/-- A row of the call's own. -/
def oF (B : Nat) (ys : List Pr) : Value → World → Prop := fun v W => W.ownsRow B 97 5 v ys.length (eP.cs ys)
theorem stable_oF (B : Nat) (ys : List Pr) : Stable (oF B ys) := fun _ _ _ h hb => own_keep h hb
/-- A row of one. -/
def hF (h : Pr) : Value → World → Prop := fun v W => ∃ b, v = .slice (some ⟨b, 0, none⟩) 1 1 ∧ Rw eP W (some ⟨b, 0, none⟩) [h]
theorem stable_hF (h : Pr) : Stable (hF h) := fun _ _ _ ⟨b, hv, hP⟩ hb => ⟨b, hv, hP.below hb⟩
theorem pm_two (W : World) (p q : Pt Pr) (t : TypeId) (hp : Rw eP W p.A p.xs) (hq : Rw eP W q.A q.xs) : Pm eP (W.alloc (.cells #[.slice p.A p.xs.length p.c, .slice q.A q.xs.length q.c] t)) W.heap.size [p, q] := by
  refine ⟨by simp, fun k r hr => ?_⟩
  match k, hr with
  | 0, hr => simp at hr; subst hr; exact ⟨by simp, hp.below ((Below.refl _ _).alloc (Nat.le_refl _) _)⟩
  | 1, hr => simp at hr; subst hr; exact ⟨by simp, hq.below ((Below.refl _ _).alloc (Nat.le_refl _) _)⟩
  | k + 2, hr => simp at hr
theorem pm_three (W : World) (p q s : Pt Pr) (t : TypeId) (hp : Rw eP W p.A p.xs) (hq : Rw eP W q.A q.xs) (hs : Rw eP W s.A s.xs) : Pm eP (W.alloc (.cells #[.slice p.A p.xs.length p.c, .slice q.A q.xs.length q.c, .slice s.A s.xs.length s.c] t)) W.heap.size [p, q, s] := by
  refine ⟨by simp, fun k r hr => ?_⟩
  match k, hr with
  | 0, hr => simp at hr; subst hr; exact ⟨by simp, hp.below ((Below.refl _ _).alloc (Nat.le_refl _) _)⟩
  | 1, hr => simp at hr; subst hr; exact ⟨by simp, hq.below ((Below.refl _ _).alloc (Nat.le_refl _) _)⟩
  | 2, hr => simp at hr; subst hr; exact ⟨by simp, hs.below ((Below.refl _ _).alloc (Nat.le_refl _) _)⟩
  | k + 3, hr => simp at hr
theorem hs_box (W : World) (x : Pr) : Rw eP (W.alloc (Prx x)) (some ⟨W.heap.size, 0, none⟩) [x] := by
  refine ⟨by simp, fun q z hq => ?_⟩
  match q, hq with
  | 0, hq =>
    simp at hq
    subst hq
    refine ⟨_, rfl, fun j v hv => ?_⟩
    rw [Addr.add_mid]
    have hv' : (prl x)[j]? = some v := hv
    have := (qb_box W x).1 j v hv'
    simpa [eP] using this
  | q + 1, hq => simp at hq

/-- What a change hands back: a row, and a number. -/
def OutPost (w : World) (ys : List Pr) (q : Int) (e : Ending) (w' : World) : Prop :=
  ∃ A cap, e = .returned (.tuple #[.slice A ys.length cap, .int .i64 q]) ∧ ys.length ≤ cap ∧ cap ≤ maxLen ∧ Rw eP w' A ys ∧ Below w.heap.size w w' ∧ ∀ y, A = some y → w.heap.size ≤ y.block
theorem out_no (w w' : World) (q : Int) (hb : Below w.heap.size w w') : OutPost w [] q (.returned (.tuple #[.slice none 0 0, .int .i64 q])) w' :=
  ⟨none, 0, rfl, by simp, by unfold maxLen; omega, Rw.nil _ _, hb, fun y hy => by cases hy⟩
theorem out_yes {w w' : World} {B : Nat} {v : Value} {ys : List Pr} (h : w'.ownsRow B 97 5 v ys.length (eP.cs ys)) (hn : ys.length ≤ 1000) (hb : Below w.heap.size w w') (hB : w.heap.size ≤ B) : OutPost w ys 0 (.returned (.tuple #[v, .int .i64 0])) w' := by
  obtain ⟨A, cap, rfl, hc, hm, _, hH, hF⟩ := own_rw (E := eP) h (by omega)
  exact ⟨A, cap, rfl, hc, hm, hH, hb, fun y hy => Nat.le_trans hB (hF y hy).1⟩

/-- The row with one more, and what is told. -/
def putC (xs : List Pr) (p : Pr) : Int := if toB xs p.a = true then 6 else if 16 ≤ xs.length then 4 else 0
def putR (xs : List Pr) (p : Pr) : List Pr := if putC xs p = 0 then xs ++ [p] else []
/-- The row without what a packet answers, and what is told. -/
def del (xs : List Pr) (k : Nat) : List Pr := xs.take k ++ xs.drop (k + 1)
def matC (xs : List Pr) (p : Pk) : Int := if plB (plc p xs) = true then 0 else 7
def matR (xs : List Pr) (p : Pk) : List Pr := match plc p xs with
  | some k => del xs k
  | none => []

set_option maxRecDepth 100000 in
set_option maxHeartbeats 4000000 in
theorem put_any (x : Pr) (A : Option Addr) (xs : List Pr) (cap : Nat) (w : World) (h : Rw eP w A xs) (hc : xs.length ≤ cap) (hx9 : xs.length ≤ 900) :
    Calls Tryz.prog 71 #[.slice A xs.length cap, prv x] w (OutPost w (putR xs x) (putC xs x)) := by
  have hln := h.1
  have HB0 := Lib.hid (show Below w.heap.size w (w.alloc (Prx x)) from (Below.refl _ w).alloc (Nat.le_refl _) _)
  have R0 := Lib.hid (h.below HB0.out)
  have Q0 := Lib.hid (qb_box w x)
  obtain ⟨b0, -, -, -, -⟩ := pr_box w x
  have HTO := Lib.hid (anyTo_any x.a A xs cap (w.alloc (Prx x)) R0.out)
  have HPC := Lib.hid (show putC xs x = if toB xs x.a = true then 6 else if 16 ≤ xs.length then 4 else 0 from rfl)
  have HPR := Lib.hid (show putR xs x = if putC xs x = 0 then xs ++ [x] else [] from rfl)
  unfold prv Prx at *
  cases hB : toB xs x.a
  · rw [hB] at HTO
    have hBf : ¬ (toB xs x.a = true) := by rw [hB]; simp
    by_cases h16 : 16 ≤ xs.length
    · have h16' : (16 : Int) ≤ xs.length := by omega
      have HT := Lib.hid (show putR xs x = [] ∧ putC xs x = 4 by
        have e : putC xs x = 4 := by rw [HPC.out, if_neg hBf, if_pos h16]
        exact ⟨by rw [HPR.out, e]; rfl, e⟩)
      rw [HT.out.1, HT.out.2]
      clear h HT hB hBf HPC HPR
      generalize xs.length = L at *
      go_enter Tryz.func71, Tryz.ntmps71
      go_wp2_with fail
      generalize w.alloc (.cells #[.int .u32 x.a, .int .i64 x.i, .int .i64 x.s, .int .i64 x.t, .int .i64 x.n] 97) = W at *
      refine HTO.out.mono ?_
      rintro e w1 ⟨rfl, hb⟩
      have B1 := Lib.hid (HB0.out.trans (hb.mono HB0.out.size))
      clear hb
      go_wp2_with fail
      go_ret2
      exact out_no w w1 4 B1.out
    · have h16' : decide ((16 : Int) ≤ xs.length) = false := decide_eq_false (by omega)
      obtain ⟨ys, hys⟩ : ∃ ys, xs ++ [x] = ys := ⟨_, rfl⟩
      have HT := Lib.hid (show putR xs x = ys ∧ putC xs x = 0 by
        have e : putC xs x = 0 := by rw [HPC.out, if_neg hBf, if_neg h16]
        exact ⟨by rw [HPR.out, e, ← hys]; rfl, e⟩)
      rw [HT.out.1, HT.out.2]
      have hyl : ys.length ≤ 1000 := by rw [← hys, List.length_append]; simp; omega
      have HYL := Lib.hid hyl
      have HCC := Lib.hid (show ∀ W g, Rw eP W A xs → Rw eP W (some ⟨g, 0, none⟩) [x] → Calls Tryz.prog 113 #[.slice (some ⟨W.heap.size, 0, none⟩) 2 2] (W.alloc (.cells #[.slice A xs.length cap, .slice (some ⟨g, 0, none⟩) 1 1] 32)) (OwnPost eP 97 (W.alloc (.cells #[.slice A xs.length cap, .slice (some ⟨g, 0, none⟩) 1 1] 32)) ys) from fun W g hA hX => by
        have hp := pm_two W ⟨A, xs, cap⟩ ⟨some ⟨g, 0, none⟩, [x], 1⟩ 32 hA hX
        have := concat_any [⟨A, xs, cap⟩, ⟨some ⟨g, 0, none⟩, [x], 1⟩] W.heap.size 2 _ hp (by simp [cat]; omega) (by simp)
        rw [show cat [(⟨A, xs, cap⟩ : Pt Pr), ⟨some ⟨g, 0, none⟩, [x], 1⟩] [(⟨A, xs, cap⟩ : Pt Pr), ⟨some ⟨g, 0, none⟩, [x], 1⟩].length = ys by rw [← hys]; simp [cat]] at this
        exact this)
      clear h HT hB hBf HPC HPR hyl hys
      generalize xs.length = L at *
      go_enter Tryz.func71, Tryz.ntmps71
      go_wp2_with fail
      generalize w.alloc (.cells #[.int .u32 x.a, .int .i64 x.i, .int .i64 x.s, .int .i64 x.t, .int .i64 x.n] 97) = W at *
      refine HTO.out.mono ?_
      rintro e w1 ⟨rfl, hb⟩
      have B1 := Lib.hid (HB0.out.trans (hb.mono HB0.out.size))
      have R1 := Lib.hid (R0.out.below hb)
      have Q1 := Lib.hid (Q0.out.below hb)
      clear hb b0 Q0 R0
      have RX := Lib.hid (hs_box w1 x)
      have R2 := Lib.hid (R1.out.below ((Below.refl _ w1).alloc (Nat.le_refl _) (Prx x)))
      have HC2 := Lib.hid (HCC.out _ _ R2.out RX.out)
      have B2 := Lib.hid ((B1.out.alloc B1.out.size (Prx x)).alloc (Nat.le_trans B1.out.size (by simp)) (.cells #[.slice A L cap, .slice (some ⟨w1.heap.size, 0, none⟩) 1 1] 32))
      unfold Prx at *
      go_wp2_with (refine at_load37 (.tmp 3) rfl rfl _ x rfl Q1.out.at ?_)
      rw [World.size_alloc] at HC2
      refine HC2.out.mono ?_
      rintro e w3 ⟨v, rfl, ho, hb⟩
      have B3 := Lib.hid (B2.out.trans (hb.mono B2.out.size))
      have O3 := Lib.hid ho
      clear hb ho
      go_wp2_with fail
      go_ret2
      exact out_yes O3.out HYL.out B3.out (by have := B2.out.size; simpa using this)
  · rw [hB] at HTO
    have HT := Lib.hid (show putR xs x = [] ∧ putC xs x = 6 by
      have e : putC xs x = 6 := by rw [HPC.out, if_pos hB]
      exact ⟨by rw [HPR.out, e]; rfl, e⟩)
    rw [HT.out.1, HT.out.2]
    clear h HT hB HPC HPR
    generalize xs.length = L at *
    go_enter Tryz.func71, Tryz.ntmps71
    go_wp2_with fail
    generalize w.alloc (.cells #[.int .u32 x.a, .int .i64 x.i, .int .i64 x.s, .int .i64 x.t, .int .i64 x.n] 97) = W at *
    refine HTO.out.mono ?_
    rintro e w1 ⟨rfl, hb⟩
    have B1 := Lib.hid (HB0.out.trans (hb.mono HB0.out.size))
    clear hb
    go_wp2_with fail
    go_ret2
    exact out_no w w1 6 B1.out

end Go.Proofs.YtilneflfeegnfaaGreat.Pb

/-
  What waits still, and what is asked again, as a plain function; two rows of one's own beside each other; the contracts of probe.Late and of the statements' own late. Conditions: the row lies in memory, has up to 900 questions, each asked at most 2^40 times.
-/
set_option linter.unusedSimpArgs false
set_option linter.unusedVariables false
namespace Go.Proofs.YtilneflfeegnfaaGreat.Pb
open Go.RowKit

/-- One question more: what is kept, and what is asked again. -/
def nx (now : Int) (x : Pr) : Pr := ⟨x.a, x.i, x.s, cl now, x.n + 1⟩
def st1 (wt ag now room : Int) (S : List Pr × List Pr) (x : Pr) : List Pr × List Pr :=
  if wt ≤ si now x.t then
    if ag ≤ x.n then S
    else if (S.2.length : Int) < room then (S.1 ++ [nx now x], S.2 ++ [nx now x])
    else (S.1 ++ [x], S.2)
  else (S.1 ++ [x], S.2)
def ltO (wt ag now room : Int) (xs : List Pr) : List Pr × List Pr := xs.foldl (st1 wt ag now room) ([], [])
theorem lt_snoc (wt ag now room : Int) {xs : List Pr} {k : Nat} {x : Pr} (hx : xs[k]? = some x) : ltO wt ag now room (xs.take (k + 1)) = st1 wt ag now room (ltO wt ag now room (xs.take k)) x := by
  unfold ltO
  rw [List.take_add_one, hx, List.foldl_append]
  rfl
theorem st1_len (wt ag now room : Int) (S : List Pr × List Pr) (x : Pr) (h : S.2.length ≤ S.1.length) : (st1 wt ag now room S x).1.length ≤ S.1.length + 1 ∧ (st1 wt ag now room S x).2.length ≤ (st1 wt ag now room S x).1.length := by
  unfold st1
  split
  · split
    · exact ⟨by omega, h⟩
    · split
      · simp; omega
      · simp; omega
  · simp; omega
theorem lt_len (wt ag now room : Int) (xs : List Pr) : (ltO wt ag now room xs).1.length ≤ xs.length ∧ (ltO wt ag now room xs).2.length ≤ (ltO wt ag now room xs).1.length := by
  have key : ∀ (xs : List Pr) (S : List Pr × List Pr), S.2.length ≤ S.1.length → (xs.foldl (st1 wt ag now room) S).1.length ≤ S.1.length + xs.length ∧ (xs.foldl (st1 wt ag now room) S).2.length ≤ (xs.foldl (st1 wt ag now room) S).1.length := by
    intro xs
    induction xs with
    | nil => intro S h; exact ⟨by simp, h⟩
    | cons x r ih =>
      intro S h
      obtain ⟨h1, h2⟩ := st1_len wt ag now room S x h
      obtain ⟨h3, h4⟩ := ih _ h2
      rw [List.foldl_cons]
      exact ⟨by rw [List.length_cons]; omega, h4⟩
  have := key xs ([], []) (by simp)
  simpa [ltO] using this

theorem Qb.fr {w : World} {b : Nat} {x : Pr} (h : Qb w b x) (j : Nat) (hj : j < 5) : w.frozen? ⟨b, j, none⟩ = false := by
  have := (h.2 j hj).2
  rwa [Nat.zero_add] at this
theorem Qb.set4 {w : World} {b : Nat} {x : Pr} (h : Qb w b x) (m : Int) : Qb (w.setCell ⟨b, 4, none⟩ (.int .i64 m)) b ⟨x.a, x.i, x.s, x.t, m⟩ := by
  refine ⟨fun j v hv => ?_, World.there_setCells h.2 b 4 [.int .i64 m]⟩
  match j, hv with
  | 0, hv => rw [World.cell?_setCell_other _ _ _ _ (by simp)]; exact h.1 0 v hv
  | 1, hv => rw [World.cell?_setCell_other _ _ _ _ (by simp)]; exact h.1 1 v hv
  | 2, hv => rw [World.cell?_setCell_other _ _ _ _ (by simp)]; exact h.1 2 v hv
  | 3, hv => rw [World.cell?_setCell_other _ _ _ _ (by simp)]; exact h.1 3 v hv
  | 4, hv =>
    simp [prl] at hv
    subst hv
    exact World.cell?_setCell_same _ _ _ (h.1 4 _ rfl)
  | j + 5, hv => simp [prl] at hv
theorem Qb.set3 {w : World} {b : Nat} {x : Pr} (h : Qb w b x) (m : Int) : Qb (w.setCell ⟨b, 3, none⟩ (.int .i64 m)) b ⟨x.a, x.i, x.s, m, x.n⟩ := by
  refine ⟨fun j v hv => ?_, World.there_setCells h.2 b 3 [.int .i64 m]⟩
  match j, hv with
  | 0, hv => rw [World.cell?_setCell_other _ _ _ _ (by simp)]; exact h.1 0 v hv
  | 1, hv => rw [World.cell?_setCell_other _ _ _ _ (by simp)]; exact h.1 1 v hv
  | 2, hv => rw [World.cell?_setCell_other _ _ _ _ (by simp)]; exact h.1 2 v hv
  | 3, hv =>
    simp [prl] at hv
    subst hv
    exact World.cell?_setCell_same _ _ _ (h.1 3 _ rfl)
  | 4, hv => rw [World.cell?_setCell_other _ _ _ _ (by simp)]; exact h.1 4 v hv
  | j + 5, hv => simp [prl] at hv
theorem Qb.grown {w w' : World} {b : Nat} {x : Pr} {row : Option Nat} (h : Qb w b x) (hg : w.grownBy w' row) (hne : some b ≠ row) : Qb w' b x := by
  have hb := hg.block b h.lt hne
  exact ⟨fun j v hv => by rw [World.cell?_of_block (a := ⟨b, 0 + j, none⟩) hb]; exact h.1 j v hv, fun j hj => ⟨by rw [World.cell?_of_block (a := ⟨b, 0 + j, none⟩) hb]; exact (h.2 j hj).1, by rw [World.frozen?_of_block (a := ⟨b, 0 + j, none⟩) hb]; exact (h.2 j hj).2⟩⟩

/-- Two rows of one's own, apart. -/
structure Tw (B : Nat) (S : List Pr × List Pr) (v1 v2 : Value) (w0 wr : World) : Prop where
  o1 : wr.ownsRow B 97 5 v1 S.1.length (eP.cs S.1)
  o2 : wr.ownsRow B 97 5 v2 S.2.length (eP.cs S.2)
  ap : ∀ g, v1.ownBlock = some g → v2.ownBlock ≠ some g
  bel : Below B w0 wr
theorem Tw.keep {B : Nat} {S : List Pr × List Pr} {v1 v2 : Value} {w0 wr w' : World} (h : Tw B S v1 v2 w0 wr) (hb : Below wr.heap.size wr w') (hB : B ≤ wr.heap.size) : Tw B S v1 v2 w0 w' :=
  ⟨own_keep h.o1 hb, own_keep h.o2 hb, h.ap, h.bel.trans (hb.mono hB)⟩
theorem Tw.app1 {B : Nat} {S : List Pr × List Pr} {v1 v2 v' : Value} {w0 W w' : World} {x : Pr} (h : Tw B S v1 v2 w0 W) (hB : B ≤ W.heap.size) (ho : w'.ownsRow B 97 5 v' (S.1.length + 1) (eP.cs (S.1 ++ [x]))) (hg : W.grownBy w' v1.ownBlock) (hn : v'.ownBlock = v1.ownBlock ∨ v'.ownBlock = some W.heap.size) : Tw B (S.1 ++ [x], S.2) v' v2 w0 w' := by
  refine ⟨by simpa using ho, h.o2.kept hg ?_, fun g hg1 => ?_, h.bel.grown hg hB (fun k hk => (h.o1.lt k hk).1)⟩
  · rcases hv : v1.ownBlock with _ | g
    · cases hv2 : v2.ownBlock
      · exact .inl rfl
      · exact .inr (by simp)
    · exact .inr (h.ap g hv)
  · rcases hn with e | e
    · exact h.ap g (by rw [← e]; exact hg1)
    · intro hc
      have := (h.o2.lt g hc).2
      rw [e] at hg1
      injection hg1 with hg1
      omega
theorem Tw.app2 {B : Nat} {S : List Pr × List Pr} {v1 v2 v' : Value} {w0 W w' : World} {x : Pr} (h : Tw B S v1 v2 w0 W) (hB : B ≤ W.heap.size) (ho : w'.ownsRow B 97 5 v' (S.2.length + 1) (eP.cs (S.2 ++ [x]))) (hg : W.grownBy w' v2.ownBlock) (hn : v'.ownBlock = v2.ownBlock ∨ v'.ownBlock = some W.heap.size) : Tw B (S.1, S.2 ++ [x]) v1 v' w0 w' := by
  refine ⟨h.o1.kept hg ?_, by simpa using ho, fun g hg1 hc => ?_, h.bel.grown hg hB (fun k hk => (h.o2.lt k hk).1)⟩
  · rcases hv : v1.ownBlock with _ | g
    · exact .inl rfl
    · exact .inr (fun e => h.ap g hv e.symm)
  · rcases hn with e | e
    · exact h.ap g hg1 (by rw [← e]; exact hc)
    · have := (h.o1.lt g hg1).2
      rw [e] at hc
      injection hc with hc
      omega
/-- What Late hands back: two rows. -/
def TwoPost (w : World) (S : List Pr × List Pr) (e : Ending) (w' : World) : Prop :=
  ∃ A1 c1 A2 c2, e = .returned (.tuple #[.slice A1 S.1.length c1, .slice A2 S.2.length c2]) ∧ S.1.length ≤ c1 ∧ S.2.length ≤ c2 ∧ Rw eP w' A1 S.1 ∧ Rw eP w' A2 S.2 ∧ Below w.heap.size w w'
theorem Tw.two {B : Nat} {S : List Pr × List Pr} {v1 v2 : Value} {w0 wr w : World} (h : Tw B S v1 v2 w0 wr) (h1 : S.1.length ≤ 1000) (h2 : S.2.length ≤ 1000) (hb : Below w.heap.size w wr) : TwoPost w S (.returned (.tuple #[v1, v2])) wr := by
  obtain ⟨A1, c1, rfl, k1, -, -, r1, -⟩ := own_rw (E := eP) h.o1 (by omega)
  obtain ⟨A2, c2, rfl, k2, -, -, r2, -⟩ := own_rw (E := eP) h.o2 (by omega)
  exact ⟨A1, c1, A2, c2, rfl, k1, k2, r1, r2, hb⟩

set_option maxRecDepth 100000 in
set_option maxHeartbeats 16000000 in
theorem late_any (c : Cf) (now room : Int) (A : Option Addr) (xs : List Pr) (cap : Nat) (w : World) (h : Rw eP w A xs) (hx9 : xs.length ≤ 900) (hn : ∀ x ∈ xs, 0 ≤ x.n ∧ x.n ≤ 1099511627776) :
    Calls Tryz.prog 69 #[cfv c, .slice A xs.length cap, .int .i64 now, .int .i64 room] w (TwoPost w (ltO c.f c.g now room xs)) := by
  have hln := h.1
  have HB0 := Lib.hid (show Below w.heap.size w (w.alloc (Cfx c)) from (Below.refl _ w).alloc (Nat.le_refl _) _)
  have R := Lib.hid (h.below HB0.out)
  have C0 := Lib.hid (cm_box w c)
  have HN := Lib.hid hn
  have HLN := Lib.hid (lt_len c.f c.g now room)
  have HS1 := Lib.hid (show ∀ S x, st1 c.f c.g now room S x = (if c.f ≤ si now x.t then (if c.g ≤ x.n then S else if (S.2.length : Int) < room then (S.1 ++ [nx now x], S.2 ++ [nx now x]) else (S.1 ++ [x], S.2)) else (S.1 ++ [x], S.2)) from fun S x => rfl)
  have HSI := Lib.hid fun t W => since_any now t W
  have HCL := Lib.hid fun W => clamp_any now W
  have HSN := Lib.hid (fun k x (hx : xs[k]? = some x) => lt_snoc c.f c.g now room hx)
  clear h hn
  obtain ⟨L, hL⟩ : ∃ L, xs.length = L := ⟨_, rfl⟩
  have HL := Lib.hid hL
  rw [hL] at hln hx9 ⊢
  clear hL
  unfold cfv Cfx at *
  go_enter Tryz.func69, Tryz.ntmps69
  go_wp2_with fail
  generalize w.alloc (.cells #[.int .i64 c.a, .int .i64 c.b, .int .i64 c.c, .int .i64 c.d, .int .i64 c.e, .int .i64 c.f, .int .i64 c.g, .int .i64 c.h, .int .i64 c.i] 27) = W0 at *
  go_loopw [10, 11, 17] (fun v u i wr => ∃ (k : Nat), i = .int .i64 k ∧ k ≤ L ∧ Hid (Tw W0.heap.size (ltO c.f c.g now room (xs.take k)) v u W0 wr)) (fun _ _ i _ => L - (intOf i).toNat)
  case atStart => exact ⟨0, rfl, by omega, Lib.hid ⟨World.ownsRow_nil _ _ _ _, World.ownsRow_nil _ _ _ _, (fun g e => by cases e), Below.refl _ _⟩⟩
  case round =>
    obtain ⟨k, rfl, hk, HT0⟩ := hrel
    have hl1 := (HLN.out (xs.take k)).1
    have hl2 := (HLN.out (xs.take k)).2
    have hl3 : (xs.take k).length ≤ L := by rw [List.length_take, HL.out]; omega
    by_cases hkL : k < L
    · obtain ⟨x, hx⟩ := at_of_lt (xs := xs) (k := k) (by rw [HL.out]; exact hkL)
      obtain ⟨y, rfl⟩ := rw_some R.out (by rw [HL.out]; omega)
      have hat := (R.out.below HT0.out.bel).at hx
      have HX := Lib.hid hx
      obtain ⟨hn0, hn1⟩ := HN.out x (List.mem_of_getElem? hx)
      have HSX := Lib.hid (HSN.out k x hx)
      clear hx
      generalize ltO c.f c.g now room (xs.take k) = S at *
      have hBr := HT0.out.bel.size
      have C1 := Lib.hid (C0.out.below HT0.out.bel)
      have T1 := Lib.hid (HT0.out.keep ((Below.refl _ wr).alloc (Nat.le_refl _) (Prx x)) hBr)
      have C2 := Lib.hid (C1.out.below ((Below.refl _ wr).alloc (Nat.le_refl _) (Prx x)))
      have Q2 := Lib.hid (qb_box wr x)
      have hqn : ∀ g, u11.ownBlock = some g → g < wr.heap.size := fun g hg => (HT0.out.o2.lt g hg).2
      have HQN := Lib.hid hqn
      have hB1 : W0.heap.size ≤ (wr.alloc (Prx x)).heap.size := Nat.le_trans hBr (by simp)
      have hbs : wr.heap.size < (wr.alloc (Prx x)).heap.size := by simp
      clear hqn C1
      unfold Prx at *
      obtain ⟨v1, rfl⟩ : ∃ v, v = u10 := ⟨_, rfl⟩
      obtain ⟨A2, c2, rfl, -, -, -, -, -⟩ := own_rw (E := eP) HT0.out.o2 (by omega)
      have hlen1 : S.1.length + 1 ≤ 1000000000000 := by omega
      have hlen2 : S.2.length + 1 ≤ 1000000000000 := by omega
      have hm9 : S.2.length ≤ 1000 := by omega
      have BW1 := Lib.hid (show Below wr.heap.size wr (wr.alloc (.cells #[.int .u32 x.a, .int .i64 x.i, .int .i64 x.s, .int .i64 x.t, .int .i64 x.n] 97)) from (Below.refl _ wr).alloc (Nat.le_refl _) _)
      clear hl1 hl2 hl3 T1
      obtain ⟨m2, hm2⟩ : ∃ m, S.2.length = m := ⟨_, rfl⟩
      have HM2 := Lib.hid hm2
      rw [hm2] at HT0 HQN hm9 ⊢
      clear hm2
      go_upto_region 5 with (refine at_load37 (.tmp 19) rfl rfl (y.add (k * 5)) x rfl hat ?_)
      generalize wr.alloc (.cells #[.int .u32 x.a, .int .i64 x.i, .int .i64 x.s, .int .i64 x.t, .int .i64 x.n] 97) = W at *
      obtain ⟨q0, q1, q2, q3, q4⟩ := Q2.out.c
      have rc5 := C2.out.c5
      have rc6 := C2.out.c6
      have f3 := Q2.out.fr 3 (by omega)
      have f4 := Q2.out.fr 4 (by omega)
      have r3 := cell_regrown q3
      have r5 := cell_regrown rc5
      have HSR := Lib.hid fun d' os => Calls.regrown_of (d := d') (os := os) ((HSI.out x.t (Sort.grow (redrawn W d') os)).mono fun _ _ ⟨he, hw⟩ => ⟨he, by rw [hw]; exact Below.refl _ _⟩)
      obtain ⟨Z, hZ⟩ : ∃ Z, si now x.t = Z := ⟨_, rfl⟩
      have HZ := Lib.hid hZ
      rw [hZ] at HSR
      clear hZ
      by_cases hl : c.f ≤ Z
      · refine wp_region_quiet_below (by kernel_rfl) (by kernel_rfl) ?_
        repeat (go_big_quiet_step ((go_at_call 96; exact HSR.out _ _)))
        refine wpQuiet_nil ?_
        intro _ hw'
        obtain ⟨⟨dq, osq⟩, hw''⟩ := hw'
        subst hw''
        have BQ := below_regrown W dq osq
        have BW3 := Lib.hid (BW1.out.trans (BQ.mono BW1.out.size))
        have C3 := Lib.hid (C2.out.below BQ)
        have Q3 := Lib.hid (Q2.out.below BQ)
        have hs3 := BQ.size
        clear q0 q1 q2 q3 q4 rc5 rc6 f3 f4 BQ BW1 C2 Q2 r3 r5 HSR
        generalize Sort.grow (redrawn W dq) osq = W3 at *
        obtain ⟨q0, q1, q2, q3, q4⟩ := Q3.out.c
        have rc5 := C3.out.c5
        have rc6 := C3.out.c6
        have f3 := Q3.out.fr 3 (by omega)
        have f4 := Q3.out.fr 4 (by omega)
        by_cases hg : c.g ≤ x.n
        · have HV := Lib.hid (show st1 c.f c.g now room S x = S by rw [HS1.out, HZ.out, if_pos hl, if_pos hg])
          have T9 := Lib.hid (HT0.out.keep BW3.out hBr)
          go_wp2_with fail
          go_roundw
          case rel => exact ⟨k + 1, by go_num, by omega, Lib.hid (by rw [HSX.out, HV.out]; exact T9.out)⟩
          case measure => simp [intOf]; omega
        · have hg' : decide (c.g ≤ x.n) = false := decide_eq_false hg
          by_cases hr : (m2 : Int) < room
          · have HV := Lib.hid (show st1 c.f c.g now room S x = (S.1 ++ [nx now x], S.2 ++ [nx now x]) by rw [HS1.out, HZ.out, if_pos hl, if_neg hg, if_pos (by rw [HM2.out]; exact hr)])
            obtain ⟨x5, hx5⟩ : ∃ x5, nx now x = x5 := ⟨_, rfl⟩
            have BW5 := Lib.hid ((BW3.out.setCell (p := ⟨wr.heap.size, 4, none⟩) (Nat.le_refl _) (.int .i64 (x.n + 1))).setCell (p := ⟨wr.heap.size, 3, none⟩) (Nat.le_refl _) (.int .i64 (cl now)))
            have Q5 := Lib.hid (show Qb ((W3.setCell ⟨wr.heap.size, 4, none⟩ (.int .i64 (x.n + 1))).setCell ⟨wr.heap.size, 3, none⟩ (.int .i64 (cl now))) wr.heap.size x5 from by rw [← hx5]; exact (Q3.out.set4 (x.n + 1)).set3 (cl now))
            go_wp2_with fail
            refine (HCL.out _).mono ?_
            rintro e w1 ⟨rfl, rfl⟩
            go_upto_region 10 with fail
            generalize (W3.setCell ⟨wr.heap.size, 4, none⟩ (.int .i64 (x.n + 1))).setCell ⟨wr.heap.size, 3, none⟩ (.int .i64 (cl now)) = W5 at *
            rw [hx5] at HV
            clear hx5 q0 q1 q2 q3 q4 rc5 rc6 f3 f4 Q3 C3 BW3
            have RX6 := Lib.hid (hs_box W5 x5)
            have BW6 := Lib.hid (show Below wr.heap.size wr (W5.alloc (Prx x5)) from BW5.out.alloc BW5.out.size _)
            have T6 := Lib.hid (HT0.out.keep BW6.out hBr)
            have Q6 := Lib.hid (Q5.out.below ((Below.refl _ W5).alloc (Nat.le_refl _) (Prx x5)))
            have hB6 := Lib.hid (T6.out.bel.size)
            unfold Prx at *
            go_wp2_with (first | (refine at_load37 (.tmp 13) rfl rfl _ x5 rfl Q5.out.at ?_) | (at_builtin; refine wpList_append_rw2 tP _ rfl (.tmp 50) (.tmp 52) rfl W0.heap.size _ _ _ (by simp [Act.eval, Act.put]) T6.out.o2 _ 1 1 [x5] (by simp [Act.eval, Act.put]) rfl RX6.out hlen2 hB6.out ?_))
            intro v7 w7 ho7 hg7 hn7
            have T7 := Lib.hid (T6.out.app2 hB6.out ho7 hg7 (by simpa using hn7))
            have Q7 := Lib.hid (Q6.out.grown hg7 (fun e => by have := HQN.out _ e.symm; omega))
            clear ho7 hg7 hn7 T6 Q6 RX6 BW6 BW5 Q5
            have RX8 := Lib.hid (hs_box w7 x5)
            have T8 := Lib.hid (T7.out.keep ((Below.refl _ w7).alloc (Nat.le_refl _) (Prx x5)) T7.out.bel.size)
            have hB8 := Lib.hid (T8.out.bel.size)
            unfold Prx at *
            go_wp2_with (first | (refine at_load37 (.tmp 13) rfl rfl _ x5 rfl Q7.out.at ?_) | (at_builtin; refine wpList_append_rw2 tP _ rfl (.tmp 54) (.tmp 56) rfl W0.heap.size _ _ _ (by simp [Act.eval, Act.put]) T8.out.o1 _ 1 1 [x5] (by simp [Act.eval, Act.put]) rfl RX8.out hlen1 hB8.out ?_))
            intro v9 w9 ho9 hg9 hn9
            have T9 := Lib.hid (T8.out.app1 hB8.out ho9 hg9 (by simpa using hn9))
            clear ho9 hg9 hn9 T8 RX8
            go_wp2_with fail
            go_roundw
            case rel => exact ⟨k + 1, by go_num, by omega, Lib.hid (by rw [HSX.out, HV.out]; exact T9.out)⟩
            case measure => simp [intOf]; omega
          · have hr' : decide ((m2 : Int) < room) = false := decide_eq_false hr
            have HV := Lib.hid (show st1 c.f c.g now room S x = (S.1 ++ [x], S.2) by rw [HS1.out, HZ.out, if_pos hl, if_neg hg, if_neg (by rw [HM2.out]; exact hr)])
            have T7 := Lib.hid (HT0.out.keep BW3.out hBr)
            have RX8 := Lib.hid (hs_box W3 x)
            have T8 := Lib.hid (T7.out.keep ((Below.refl _ W3).alloc (Nat.le_refl _) (Prx x)) T7.out.bel.size)
            have hB8 := Lib.hid (T8.out.bel.size)
            unfold Prx at *
            go_wp2_with (first | (refine at_load37 (.tmp 13) rfl rfl _ x rfl Q3.out.at ?_) | (at_builtin; refine wpList_append_rw2 tP _ rfl (.tmp 54) (.tmp 56) rfl W0.heap.size _ _ _ (by simp [Act.eval, Act.put]) T8.out.o1 _ 1 1 [x] (by simp [Act.eval, Act.put]) rfl RX8.out hlen1 hB8.out ?_))
            intro v9 w9 ho9 hg9 hn9
            have T9 := Lib.hid (T8.out.app1 hB8.out ho9 hg9 (by simpa using hn9))
            clear ho9 hg9 hn9 T8 RX8
            go_wp2_with fail
            go_roundw
            case rel => exact ⟨k + 1, by go_num, by omega, Lib.hid (by rw [HSX.out, HV.out]; exact T9.out)⟩
            case measure => simp [intOf]; omega
      · have hl' : decide (c.f ≤ Z) = false := decide_eq_false hl
        refine wp_region_quiet_below (by kernel_rfl) (by kernel_rfl) ?_
        repeat (go_big_quiet_step ((go_at_call 96; exact HSR.out _ _)))
        refine wpQuiet_nil ?_
        intro _ hw'
        obtain ⟨⟨dq, osq⟩, hw''⟩ := hw'
        subst hw''
        have BQ := below_regrown W dq osq
        have BW3 := Lib.hid (BW1.out.trans (BQ.mono BW1.out.size))
        have C3 := Lib.hid (C2.out.below BQ)
        have Q3 := Lib.hid (Q2.out.below BQ)
        have hs3 := BQ.size
        clear q0 q1 q2 q3 q4 rc5 rc6 f3 f4 BQ BW1 C2 Q2 r3 r5 HSR
        generalize Sort.grow (redrawn W dq) osq = W3 at *
        obtain ⟨q0, q1, q2, q3, q4⟩ := Q3.out.c
        have rc5 := C3.out.c5
        have rc6 := C3.out.c6
        have f3 := Q3.out.fr 3 (by omega)
        have f4 := Q3.out.fr 4 (by omega)
        have HV := Lib.hid (show st1 c.f c.g now room S x = (S.1 ++ [x], S.2) by rw [HS1.out, HZ.out, if_neg hl])
        have T7 := Lib.hid (HT0.out.keep BW3.out hBr)
        have RX8 := Lib.hid (hs_box W3 x)
        have T8 := Lib.hid (T7.out.keep ((Below.refl _ W3).alloc (Nat.le_refl _) (Prx x)) T7.out.bel.size)
        have hB8 := Lib.hid (T8.out.bel.size)
        unfold Prx at *
        go_wp2_with (first | (refine at_load37 (.tmp 13) rfl rfl _ x rfl Q3.out.at ?_) | (at_builtin; refine wpList_append_rw2 tP _ rfl (.tmp 54) (.tmp 56) rfl W0.heap.size _ _ _ (by simp [Act.eval, Act.put]) T8.out.o1 _ 1 1 [x] (by simp [Act.eval, Act.put]) rfl RX8.out hlen1 hB8.out ?_))
        intro v9 w9 ho9 hg9 hn9
        have T9 := Lib.hid (T8.out.app1 hB8.out ho9 hg9 (by simpa using hn9))
        clear ho9 hg9 hn9 T8 RX8
        go_wp2_with fail
        go_roundw
        case rel => exact ⟨k + 1, by go_num, by omega, Lib.hid (by rw [HSX.out, HV.out]; exact T9.out)⟩
        case measure => simp [intOf]; omega
    · obtain rfl : k = L := by omega
      have hfull : xs.take k = xs := List.take_of_length_le (by rw [HL.out]; exact Nat.le_refl _)
      rw [hfull] at HT0 hl1 hl2
      have h1 : (ltO c.f c.g now room xs).1.length ≤ 1000 := by rw [HL.out] at hl1; omega
      have h2 : (ltO c.f c.g now room xs).2.length ≤ 1000 := by omega
      have HD := Lib.hid (HT0.out.two h1 h2 (HB0.out.trans (HT0.out.bel.mono HB0.out.size)))
      go_wp2_with fail
      go_ret2
      exact HD.out

end Go.Proofs.YtilneflfeegnfaaGreat.Pb

/-
  The contract of probe.Right. Conditions: the row lies in memory.
-/
set_option linter.unusedSimpArgs false
set_option linter.unusedVariables false
namespace Go.Proofs.YtilneflfeegnfaaGreat.Pb
open Go.RowKit

/-- Whether a question of a row is right, at its place. -/
def rk (xs : List Pr) (k : Nat) : Bool := match xs[k]? with
  | some x => rqB x && !toB (xs.take k) x.a
  | none => true
def rgB (xs : List Pr) : Bool := decide (xs.length ≤ 16) && (List.range xs.length).all (rk xs)
theorem rk_all (xs : List Pr) (k : Nat) : (List.range (k + 1)).all (rk xs) = ((List.range k).all (rk xs) && rk xs k) := by
  rw [List.range_succ, List.all_append]; simp
theorem all_no {xs : List Pr} {k : Nat} (hk : k < xs.length) (h : rk xs k = false) : (List.range xs.length).all (rk xs) = false := by
  rw [Bool.eq_false_iff]
  intro hc
  rw [List.all_eq_true] at hc
  have := hc k (List.mem_range.2 hk)
  rw [h] at this; cases this
theorem rgB_no {xs : List Pr} {k : Nat} (hk : k < xs.length) (h : rk xs k = false) : rgB xs = false := by
  unfold rgB
  rw [all_no hk h, Bool.and_false]

set_option maxRecDepth 100000 in
set_option maxHeartbeats 8000000 in
theorem right_row (A : Option Addr) (xs : List Pr) (cap : Nat) (w : World) (h : Rw eP w A xs) (hcap : xs.length ≤ cap) :
    Calls Tryz.prog 41 #[.slice A xs.length cap] w fun e w' => e = .returned (.bool (rgB xs)) ∧ Below w.heap.size w w' := by
  have hln := h.1
  have R := Lib.hid h
  have HNO := Lib.hid (fun k => @rgB_no xs k)
  have HRG := Lib.hid (show rgB xs = _ by unfold rgB; rfl)
  have HSL := Lib.hid (fun n c i hi W => run_sl29 A n c i hi W)
  clear h
  by_cases h16 : 16 < xs.length
  · have HF := Lib.hid (show rgB xs = false by rw [HRG.out, decide_eq_false (by omega)]; rfl)
    generalize xs.length = L at *
    go_enter Tryz.func41, Tryz.ntmps41
    go_wp2_with fail
    go_ret
    exact ⟨by rw [HF.out]; rfl, Below.refl _ _⟩
  · have h16' : xs.length ≤ 16 := by omega
    rw [decide_eq_true h16', Bool.true_and] at HRG
    obtain ⟨L, hL⟩ : ∃ L, xs.length = L := ⟨_, rfl⟩
    have HL := Lib.hid hL
    rw [hL] at hln hcap HRG HNO h16 h16' ⊢
    clear hL
    go_enter Tryz.func41, Tryz.ntmps41
    go_wp2_with fail
    go_loopw [10] (fun i wr => ∃ k : Nat, i = .int .i64 k ∧ k ≤ L ∧ Hid (Below w.heap.size w wr) ∧ Hid ((List.range k).all (rk xs) = true)) (fun i _ => L - (intOf i).toNat)
    case atStart => exact ⟨0, rfl, by omega, Lib.hid (Below.refl _ _), Lib.hid rfl⟩
    case round =>
      obtain ⟨k, rfl, hk, HW, HF⟩ := hrel
      by_cases hkL : k < L
      · obtain ⟨x, hx⟩ := at_of_lt (xs := xs) (k := k) (by rw [HL.out]; exact hkL)
        obtain ⟨y, rfl⟩ := rw_some R.out (by rw [HL.out]; omega)
        have RW := Lib.hid (R.out.below HW.out)
        have hat := RW.out.at hx
        have HX := Lib.hid hx
        have Q1 := Lib.hid (qb_box wr x)
        have hsz : wr.heap.size < (wr.alloc (Prx x)).heap.size := by simp
        have B1 := Lib.hid (show Below w.heap.size w (wr.alloc (Prx x)) from HW.out.alloc HW.out.size _)
        have R1 := Lib.hid (RW.out.below ((Below.refl _ wr).alloc (Nat.le_refl _) (Prx x)))
        have HKK := Lib.hid (show rk xs k = (rqB x && !toB (xs.take k) x.a) by unfold rk; rw [hx])
        have e1 : (xs.take k).length = k := by rw [List.length_take, HL.out]; omega
        have RSL := HSL.out L cap k (by omega)
        clear hx
        unfold Prx at *
        go_upto_region 6 with (refine at_load37 (.tmp 13) rfl rfl (y.add (k * 5)) x rfl hat ?_)
        generalize wr.alloc (.cells #[.int .u32 x.a, .int .i64 x.i, .int .i64 x.s, .int .i64 x.t, .int .i64 x.n] 97) = W at *
        obtain ⟨s0, s1, s2, s3, s4⟩ := Q1.out.c
        have r0 := cell_regrown s0
        have r1 := cell_regrown s1
        have r2 := cell_regrown s2
        have r3 := cell_regrown s3
        have r4 := cell_regrown s4
        clear hat s0 s1 s2 s3 s4
        have RQW := fun W' => rightProbe_any x W'
        have TOW := fun W' (hR : Rw eP W' (some y) xs) => anyTo_any x.a (some y) (xs.take k) cap W' (hR.take k)
        rw [e1] at TOW
        unfold prv at RQW
        cases hrs : rqB x
        · have HKF := Lib.hid (show rk xs k = false by rw [HKK.out, hrs]; rfl)
          rw [hrs] at RQW
          have HRS := Lib.hid fun d os => Calls.regrown_of (d := d) (os := os) (RQW (Sort.grow (redrawn W d) os))
          refine wp_region_quiet_below (by kernel_rfl) (by kernel_rfl) ?_
          repeat (go_big_quiet_step (first | (go_at_call 88; exact HRS.out _ _) | (go_at_call 89; exact HAO.out _ _)))
          refine wpQuiet_nil ?_
          intro _ hw'
          obtain ⟨⟨dq, osq⟩, hw''⟩ := hw'
          subst hw''
          have B3 := Lib.hid (show Below w.heap.size w (Sort.grow (redrawn W dq) osq) from B1.out.trans ((below_regrown _ dq osq).mono B1.out.size))
          go_wp2_with fail
          go_ret
          exact ⟨by rw [HNO.out k hkL HKF.out]; rfl, B3.out⟩
        · rw [hrs] at RQW
          cases han : toB (xs.take k) x.a
          · have HKT := Lib.hid (show rk xs k = true by rw [HKK.out, hrs, han]; rfl)
            rw [han] at TOW
            have HRS := Lib.hid fun d os => Calls.regrown_of (d := d) (os := os) (RQW (Sort.grow (redrawn W d) os))
            have HAO := Lib.hid fun d os => Calls.regrown_of (d := d) (os := os) (TOW (Sort.grow (redrawn W d) os) (R1.out.below (below_regrown W d os)))
            refine wp_region_quiet_below (by kernel_rfl) (by kernel_rfl) ?_
            repeat (go_big_quiet_step (first | (go_at_call 88; exact HRS.out _ _) | (go_at_call 89; exact HAO.out _ _)))
            refine wpQuiet_nil ?_
            intro _ hw'
            obtain ⟨⟨dq, osq⟩, hw''⟩ := hw'
            subst hw''
            have B3 := Lib.hid (show Below w.heap.size w (Sort.grow (redrawn W dq) osq) from B1.out.trans ((below_regrown _ dq osq).mono B1.out.size))
            go_wp2_with fail
            go_roundw
            case rel => exact ⟨k + 1, by go_num, by omega, B3, Lib.hid (by rw [rk_all, HF.out, HKT.out]; rfl)⟩
            case measure => simp [intOf]; omega
          · have HKF := Lib.hid (show rk xs k = false by rw [HKK.out, hrs, han]; rfl)
            rw [han] at TOW
            have HRS := Lib.hid fun d os => Calls.regrown_of (d := d) (os := os) (RQW (Sort.grow (redrawn W d) os))
            have HAO := Lib.hid fun d os => Calls.regrown_of (d := d) (os := os) (TOW (Sort.grow (redrawn W d) os) (R1.out.below (below_regrown W d os)))
            refine wp_region_quiet_below (by kernel_rfl) (by kernel_rfl) ?_
            repeat (go_big_quiet_step (first | (go_at_call 88; exact HRS.out _ _) | (go_at_call 89; exact HAO.out _ _)))
            refine wpQuiet_nil ?_
            intro _ hw'
            obtain ⟨⟨dq, osq⟩, hw''⟩ := hw'
            subst hw''
            have B3 := Lib.hid (show Below w.heap.size w (Sort.grow (redrawn W dq) osq) from B1.out.trans ((below_regrown _ dq osq).mono B1.out.size))
            go_wp2_with fail
            go_ret
            exact ⟨by rw [HNO.out k hkL HKF.out]; rfl, B3.out⟩
      · obtain rfl : k = L := by omega
        go_wp2_with fail
        go_ret
        exact ⟨by rw [HRG.out, HF.out]; rfl, HW.out⟩
end Go.Proofs.YtilneflfeegnfaaGreat.Pb

/-
  What keeps a row right: a question more, one less, and ticks; which questions are asked again. No condition.
-/
set_option linter.unusedSimpArgs false
set_option linter.unusedVariables false
namespace Go.Proofs.YtilneflfeegnfaaGreat.Pb
/-- All addresses of a row are numbers of 32 bits. -/
def Au (xs : List Pr) : Prop := ∀ x ∈ xs, 0 ≤ x.a ∧ x.a < 4294967296
theorem rqB_eq (x : Pr) : rqB x = (decide (x.i = x.a % 65536) && decide (0 ≤ x.s) && decide (x.s ≤ 65535) && decide (0 ≤ x.t) && decide (x.t ≤ 1099511627776) && decide (0 ≤ x.n) && decide (x.n ≤ 8)) := by
  unfold rqB
  rw [show decide (x.t = cl x.t) = (decide (0 ≤ x.t) && decide (x.t ≤ 1099511627776)) by rw [← Bool.decide_and]; exact decide_eq_decide.2 (cl_iff _)]
  simp only [Bool.and_assoc]
open Go.RowKit

theorem to_false {xs : List Pr} {a : Int} : toB xs a = false ↔ ∀ x ∈ xs, x.a ≠ a := by
  unfold toB
  rw [List.any_eq_false]
  simp
theorem to_true {xs : List Pr} {a : Int} : toB xs a = true ↔ ∃ x ∈ xs, x.a = a := by
  unfold toB
  rw [List.any_eq_true]
  simp
/-- A row that is right. -/
structure Vr (xs : List Pr) : Prop where
  few : xs.length ≤ 16
  all : ∀ x ∈ xs, rqB x = true
  dis : (xs.map (·.a)).Nodup
theorem rg_iff (xs : List Pr) : rgB xs = true ↔ Vr xs := by
  unfold rgB
  rw [Bool.and_eq_true, decide_eq_true_eq, List.all_eq_true]
  constructor
  · rintro ⟨h1, h2⟩
    have h3 : ∀ k (hk : k < xs.length), rqB xs[k] = true ∧ toB (xs.take k) xs[k].a = false := fun k hk => by
      have := h2 k (List.mem_range.2 hk)
      unfold rk at this
      rw [List.getElem?_eq_getElem hk] at this
      simpa using this
    refine ⟨h1, fun x hx => ?_, ?_⟩
    · obtain ⟨k, hk, rfl⟩ := List.mem_iff_getElem.1 hx
      exact (h3 k hk).1
    · rw [List.nodup_iff_pairwise_ne, List.pairwise_map, List.pairwise_iff_getElem]
      intro i j hi hj hij
      refine to_false.1 (h3 j hj).2 xs[i] ?_
      rw [List.mem_iff_getElem]
      exact ⟨i, by rw [List.length_take]; omega, by simp⟩
  · rintro ⟨h1, h2, h3⟩
    refine ⟨h1, fun k hk => ?_⟩
    have hk := List.mem_range.1 hk
    unfold rk
    rw [List.getElem?_eq_getElem hk]
    simp only [Bool.and_eq_true, Bool.not_eq_true']
    refine ⟨h2 _ (List.getElem_mem hk), to_false.2 fun x hx => ?_⟩
    obtain ⟨i, hi, rfl⟩ := List.mem_iff_getElem.1 hx
    rw [List.length_take] at hi
    rw [List.nodup_iff_pairwise_ne, List.pairwise_map, List.pairwise_iff_getElem] at h3
    have := h3 i k (by omega) hk (by omega)
    simpa using this
structure V (xs : List Pr) : Prop where
  r : Vr xs
  u : Au xs
theorem V.nil : V [] := ⟨⟨by simp, fun x hx => by simp at hx, by simp⟩, fun x hx => by simp at hx⟩
theorem rq_out {x : Pr} (h : rqB x = true) : x.i = x.a % 65536 ∧ 0 ≤ x.s ∧ x.s ≤ 65535 ∧ 0 ≤ x.t ∧ x.t ≤ 1099511627776 ∧ 0 ≤ x.n ∧ x.n ≤ 8 := by
  rw [rqB_eq] at h
  simp only [Bool.and_eq_true, decide_eq_true_eq] at h
  obtain ⟨⟨⟨⟨⟨⟨h1, h2⟩, h3⟩, h4⟩, h5⟩, h6⟩, h7⟩ := h
  exact ⟨h1, h2, h3, h4, h5, h6, h7⟩
theorem rq_in {x : Pr} (h1 : x.i = x.a % 65536) (h2 : 0 ≤ x.s) (h3 : x.s ≤ 65535) (h4 : 0 ≤ x.t) (h5 : x.t ≤ 1099511627776) (h6 : 0 ≤ x.n) (h7 : x.n ≤ 8) : rqB x = true := by
  rw [rqB_eq]
  simp only [Bool.and_eq_true, decide_eq_true_eq]
  exact ⟨⟨⟨⟨⟨⟨h1, h2⟩, h3⟩, h4⟩, h5⟩, h6⟩, h7⟩
theorem rq_of (a s n : Int) : rqB (ofP a s n) = true := rq_in rfl (by unfold ofP; dsimp only; omega) (by unfold ofP; dsimp only; omega) (cl_ge n) (cl_le n) (by show (0 : Int) ≤ 0; omega) (by show (0 : Int) ≤ 8; omega)
theorem V.one {x : Pr} (h : rqB x = true) (h0 : 0 ≤ x.a) (h1 : x.a < 4294967296) : V [x] := ⟨⟨by simp, fun y hy => by simp at hy; subst hy; exact h, by simp⟩, fun y hy => by simp at hy; subst hy; exact ⟨h0, h1⟩⟩
theorem V.n {xs : List Pr} (h : V xs) : ∀ x ∈ xs, 0 ≤ x.n ∧ x.n ≤ 1099511627776 := fun x hx => by
  obtain ⟨-, -, -, -, -, h6, h7⟩ := rq_out (h.r.all x hx)
  omega
theorem V.t {xs : List Pr} (h : V xs) : ∀ x ∈ xs, 0 ≤ x.t ∧ x.t ≤ 1099511627776 := fun x hx => by
  obtain ⟨-, -, -, h4, h5, -, -⟩ := rq_out (h.r.all x hx)
  omega
theorem put_ok {xs : List Pr} {x : Pr} (h : V xs) (hq : rqB x = true) (h0 : 0 ≤ x.a) (h1 : x.a < 4294967296) (hp : putC xs x = 0) : V (xs ++ [x]) := by
  unfold putC at hp
  cases ht : toB xs x.a
  · rw [ht] at hp
    have h16 : ¬ 16 ≤ xs.length := fun h16 => by rw [if_neg (by simp), if_pos h16] at hp; cases hp
    refine ⟨⟨by rw [List.length_append]; simp; omega, fun y hy => ?_, ?_⟩, fun y hy => ?_⟩
    · rcases List.mem_append.1 hy with hy | hy
      · exact h.r.all y hy
      · simp at hy; subst hy; exact hq
    · rw [List.map_append, List.nodup_append]
      refine ⟨h.r.dis, by simp, ?_⟩
      intro a ha b hb
      obtain ⟨y, hy, rfl⟩ := List.mem_map.1 ha
      simp at hb
      subst hb
      exact to_false.1 ht y hy
    · rcases List.mem_append.1 hy with hy | hy
      · exact h.u y hy
      · simp at hy; subst hy; exact ⟨h0, h1⟩
  · rw [ht, if_pos rfl] at hp
    cases hp
theorem del_sub (xs : List Pr) (k : Nat) : (del xs k).Sublist xs := by
  unfold del
  conv => rhs; rw [← List.take_append_drop k xs]
  exact (List.Sublist.refl _).append (by rw [← List.drop_drop]; exact List.drop_sublist 1 _)
theorem del_ok {xs : List Pr} (h : V xs) (k : Nat) : V (del xs k) := by
  have hs := del_sub xs k
  exact ⟨⟨Nat.le_trans hs.length_le h.r.few, fun x hx => h.r.all x (hs.subset hx), List.Nodup.sublist (hs.map _) h.r.dis⟩, fun x hx => h.u x (hs.subset hx)⟩
theorem del_len {xs : List Pr} {k : Nat} (hk : k < xs.length) : (del xs k).length + 1 = xs.length := by
  unfold del
  rw [List.length_append, List.length_take, List.length_drop]
  omega

variable {wt ag now room : Int}
theorem st1_mem {S : List Pr × List Pr} {x p : Pr} (h : p ∈ (st1 wt ag now room S x).1) : p ∈ S.1 ∨ (p = x ∧ (si now x.t < wt ∨ (x.n < ag ∧ room ≤ S.2.length))) ∨ (p = nx now x ∧ wt ≤ si now x.t ∧ x.n < ag) := by
  unfold st1 at h
  split at h
  · rename_i h1
    split at h
    · exact .inl h
    · rename_i h2
      split at h
      · rcases List.mem_append.1 h with h | h
        · exact .inl h
        · simp at h; exact .inr (.inr ⟨h, h1, by omega⟩)
      · rename_i h3
        rcases List.mem_append.1 h with h | h
        · exact .inl h
        · simp at h; exact .inr (.inl ⟨h, .inr ⟨by omega, by omega⟩⟩)
  · rename_i h1
    rcases List.mem_append.1 h with h | h
    · exact .inl h
    · simp at h; exact .inr (.inl ⟨h, .inl (by omega)⟩)
theorem st1_len2 (S : List Pr × List Pr) (x : Pr) : (st1 wt ag now room S x).2.length ≤ S.2.length + 1 := by
  unfold st1
  split
  · split
    · omega
    · split
      · simp
      · simp
  · simp
theorem fold_mem : ∀ (ys : List Pr) (S : List Pr × List Pr) (M : Nat), S.2.length + ys.length ≤ M → ∀ p ∈ (ys.foldl (st1 wt ag now room) S).1, p ∈ S.1 ∨ ∃ x ∈ ys, (p = x ∧ (si now x.t < wt ∨ (x.n < ag ∧ room ≤ M))) ∨ (p = nx now x ∧ wt ≤ si now x.t ∧ x.n < ag) := by
  intro ys
  induction ys with
  | nil => intro S M _ p hp; exact .inl hp
  | cons x r ih =>
    intro S M hM p hp
    rw [List.foldl_cons] at hp
    have hl := st1_len2 (wt := wt) (ag := ag) (now := now) (room := room) S x
    rw [List.length_cons] at hM
    rcases ih _ M (by omega) p hp with h | ⟨y, hy, h⟩
    · rcases st1_mem h with h | ⟨h1, h2⟩ | h
      · exact .inl h
      · refine .inr ⟨x, by simp, .inl ⟨h1, ?_⟩⟩
        rcases h2 with h2 | ⟨h2, h3⟩
        · exact .inl h2
        · exact .inr ⟨h2, by omega⟩
      · exact .inr ⟨x, by simp, .inr h⟩
    · exact .inr ⟨y, List.mem_cons_of_mem _ hy, h⟩
theorem lt_mem {xs : List Pr} {p : Pr} (h : p ∈ (ltO wt ag now room xs).1) : ∃ x ∈ xs, (p = x ∧ (si now x.t < wt ∨ (x.n < ag ∧ room ≤ xs.length))) ∨ (p = nx now x ∧ wt ≤ si now x.t ∧ x.n < ag) := by
  rcases fold_mem xs ([], []) xs.length (by simp) p h with h | h
  · simp at h
  · exact h
theorem st1_mem2 {S : List Pr × List Pr} {x p : Pr} (hS : ∀ q ∈ S.2, q ∈ S.1) (h : p ∈ (st1 wt ag now room S x).2) : p ∈ (st1 wt ag now room S x).1 ∧ (p ∈ S.2 ∨ (p = nx now x ∧ wt ≤ si now x.t ∧ x.n < ag)) := by
  unfold st1 at h ⊢
  split at h
  · rename_i h1
    rw [if_pos h1]
    split at h
    · rename_i h2
      rw [if_pos h2]
      exact ⟨hS p h, .inl h⟩
    · rename_i h2
      rw [if_neg h2]
      split at h
      · rename_i h3
        rw [if_pos h3]
        rcases List.mem_append.1 h with h | h
        · exact ⟨List.mem_append_left _ (hS p h), .inl h⟩
        · exact ⟨List.mem_append_right _ h, .inr ⟨by simpa using h, h1, by omega⟩⟩
      · rename_i h3
        rw [if_neg h3]
        exact ⟨List.mem_append_left _ (hS p h), .inl h⟩
  · rename_i h1
    rw [if_neg h1]
    exact ⟨List.mem_append_left _ (hS p h), .inl h⟩
theorem st1_keep {S : List Pr × List Pr} {x p : Pr} (h : p ∈ S.1) : p ∈ (st1 wt ag now room S x).1 := by
  unfold st1
  split
  · split
    · exact h
    · split
      · exact List.mem_append_left _ h
      · exact List.mem_append_left _ h
  · exact List.mem_append_left _ h
theorem fold_mem2 : ∀ (ys : List Pr) (S : List Pr × List Pr), (∀ q ∈ S.2, q ∈ S.1) → ∀ p ∈ (ys.foldl (st1 wt ag now room) S).2, p ∈ (ys.foldl (st1 wt ag now room) S).1 ∧ (p ∈ S.2 ∨ ∃ x ∈ ys, p = nx now x ∧ wt ≤ si now x.t ∧ x.n < ag) := by
  intro ys
  induction ys with
  | nil => intro S hS p hp; exact ⟨hS p hp, .inl hp⟩
  | cons x r ih =>
    intro S hS p hp
    rw [List.foldl_cons] at hp ⊢
    obtain ⟨h1, h2⟩ := ih _ (fun q hq => (st1_mem2 hS hq).1) p hp
    refine ⟨h1, ?_⟩
    rcases h2 with h2 | ⟨y, hy, h2⟩
    · rcases (st1_mem2 hS h2).2 with h3 | h3
      · exact .inl h3
      · exact .inr ⟨x, by simp, h3⟩
    · exact .inr ⟨y, List.mem_cons_of_mem _ hy, h2⟩
/-- Who is asked again was asked ahead. -/
theorem lt_mem2 {xs : List Pr} {p : Pr} (h : p ∈ (ltO wt ag now room xs).2) : p ∈ (ltO wt ag now room xs).1 ∧ ∃ x ∈ xs, p = nx now x ∧ wt ≤ si now x.t ∧ x.n < ag := by
  obtain ⟨h1, h2⟩ := fold_mem2 xs ([], []) (fun q hq => by simp at hq) p h
  refine ⟨h1, ?_⟩
  rcases h2 with h2 | h2
  · simp at h2
  · exact h2
/-- No more are asked again than there is room for. -/
theorem lt_room (xs : List Pr) : ((ltO wt ag now room xs).2.length : Int) ≤ max room 0 := by
  have key : ∀ (ys : List Pr) (S : List Pr × List Pr), (S.2.length : Int) ≤ max room 0 → ((ys.foldl (st1 wt ag now room) S).2.length : Int) ≤ max room 0 := by
    intro ys
    induction ys with
    | nil => intro S h; exact h
    | cons x r ih =>
      intro S h
      rw [List.foldl_cons]
      refine ih _ ?_
      unfold st1
      split
      · split
        · exact h
        · split
          · rw [List.length_append]; simp; omega
          · exact h
      · exact h
  exact key xs ([], []) (by simp; omega)
theorem lt_sub (xs : List Pr) : ((ltO wt ag now room xs).1.map (·.a)).Sublist (xs.map (·.a)) := by
  have key : ∀ (ys : List Pr) (S : List Pr × List Pr) (zs : List Pr), (S.1.map (·.a)).Sublist (zs.map (·.a)) → ((ys.foldl (st1 wt ag now room) S).1.map (·.a)).Sublist ((zs ++ ys).map (·.a)) := by
    intro ys
    induction ys with
    | nil => intro S zs h; simpa using h
    | cons x r ih =>
      intro S zs h
      rw [List.foldl_cons, show zs ++ x :: r = (zs ++ [x]) ++ r by simp]
      refine ih _ _ ?_
      rw [List.map_append]
      have h2 : ∀ p : Pr, p.a = x.a → ((S.1 ++ [p]).map (·.a)).Sublist (zs.map (·.a) ++ [x].map (·.a)) := fun p hp => by
        rw [List.map_append]
        simp only [List.map_cons, List.map_nil, hp]
        exact h.append (List.Sublist.refl _)
      unfold st1
      split
      · split
        · exact h.trans (List.sublist_append_left _ _)
        · split
          · exact h2 _ rfl
          · exact h2 _ rfl
      · exact h2 _ rfl
  have := key xs ([], []) [] (by simp)
  simpa [ltO] using this
theorem lt_ok {xs : List Pr} (h : V xs) (hag : ag ≤ 8) : V (ltO wt ag now room xs).1 := by
  refine ⟨⟨Nat.le_trans (lt_len _ _ _ _ _).1 h.r.few, fun p hp => ?_, List.Nodup.sublist (lt_sub xs) h.r.dis⟩, fun p hp => ?_⟩
  · obtain ⟨x, hx, ⟨rfl, _⟩ | ⟨rfl, _, h2⟩⟩ := lt_mem hp
    · exact h.r.all _ hx
    · obtain ⟨g1, g2, g3, g4, g5, g6, g7⟩ := rq_out (h.r.all x hx)
      exact rq_in g1 g2 g3 (cl_ge _) (cl_le _) (by show 0 ≤ x.n + 1; omega) (by show x.n + 1 ≤ 8; omega)
  · obtain ⟨x, hx, ⟨rfl, _⟩ | ⟨rfl, _⟩⟩ := lt_mem hp
    · exact h.u _ hx
    · exact h.u x hx
/-- Which question a packet answers, in a row that is right. -/
theorem plc_at {xs : List Pr} (h : V xs) {p : Pk} {u : Nat} {z : Pr} (hz : xs[u]? = some z) (ha : z.a = p.f) (hi : p.i = p.f % 65536) : plc p xs = if p.a = true ∧ z.s = p.s then some u else none := by
  have hu := (List.getElem?_eq_some_iff.1 hz).1
  have hzz := (List.getElem?_eq_some_iff.1 hz).2
  have hzi := (rq_out (h.r.all z (List.mem_of_getElem? hz))).1
  have hm : mt p z = (p.a && (z.s == p.s)) := by
    unfold mt
    rw [show (z.a == p.f) = true by simpa using ha, show (z.i == p.i) = true by rw [hzi, hi, ha]; simp]
    simp
  have hd : ∀ j (hj : j < xs.length), j ≠ u → mt p xs[j] = false := fun j hj hne => by
    unfold mt
    have : (xs[j].a == p.f) = false := by
      rw [beq_eq_false_iff_ne]
      intro e
      have hdis := h.r.dis
      rw [List.nodup_iff_pairwise_ne, List.pairwise_map, List.pairwise_iff_getElem] at hdis
      rcases Nat.lt_or_gt_of_ne hne with hlt | hgt
      · exact hdis j u hj hu hlt (by rw [hzz, e, ha])
      · exact hdis u j hu hj hgt (by rw [hzz, e, ha])
    rw [this]
    simp
  unfold plc
  split
  · rename_i hc
    rw [List.findIdx?_eq_some_iff_getElem]
    refine ⟨hu, by rw [hzz, hm, hc.1, hc.2]; simp, fun j hj => ?_⟩
    rw [hd j (by omega) (by omega)]
    simp
  · rename_i hc
    rw [List.findIdx?_eq_none_iff]
    intro x hx
    obtain ⟨j, hj, rfl⟩ := List.mem_iff_getElem.1 hx
    by_cases hju : j = u
    · subst hju
      rw [hzz, hm]
      cases hpa : p.a
      · rfl
      · rw [hpa] at hc
        have : ¬ z.s = p.s := fun e => hc ⟨rfl, e⟩
        simpa using this
    · exact hd j hj hju
theorem plc_no {xs : List Pr} {p : Pk} (h : toB xs p.f = false) : plc p xs = none := by
  unfold plc
  rw [List.findIdx?_eq_none_iff]
  intro x hx
  have := to_false.1 h x hx
  unfold mt
  rw [show (x.a == p.f) = false by simpa using this]
  simp

end Go.Proofs.YtilneflfeegnfaaGreat.Pb

