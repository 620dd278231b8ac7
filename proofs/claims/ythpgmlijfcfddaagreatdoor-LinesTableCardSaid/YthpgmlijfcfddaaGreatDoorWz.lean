/-
  Words that lie in a slice that came in: as plain data, in memory, and the operation that reads one of them. No condition.
-/
import Derived.Test.YthpgmlijfcfddaaGreatDoorWo
import Derived.Test.YthpgmlijfcfddaaGreatDoorTb
import Derived.Deep.Slices
set_option linter.unusedSimpArgs false
set_option linter.unusedVariables false
namespace Go.Proofs.YthpgmlijfcfddaaGreatDoor
open Go.RowKit

structure Wz where
  a : Int
  m0 : Int
  m1 : Int
  m2 : Int
  m3 : Int
  m4 : Int
  m5 : Int
  st : Int
  un : Int
  sp : Int
  T : ByteArray
def Wz.cs (x : Wz) : List Value := [.int .u32 x.a, .int .u8 x.m0, .int .u8 x.m1, .int .u8 x.m2, .int .u8 x.m3, .int .u8 x.m4, .int .u8 x.m5, .int .u8 x.st, .int .i64 x.un, .int .u8 x.sp, .string x.T]
def Wz.v (x : Wz) : Value := wv x.a x.m0 x.m1 x.m2 x.m3 x.m4 x.m5 x.st x.un x.sp x.T
def Wz.ok (x : Wz) : Prop := Wok x.a x.m0 x.m1 x.m2 x.m3 x.m4 x.m5 x.st x.un x.sp x.T ∧ x.T.size ≤ 140737488351232
/-- The words that a slice's value has, wherever they lie. -/
def Rz (w : World) (A : Option Addr) (xs : List Wz) : Prop :=
  xs.length ≤ 140737488355328 ∧ ∀ (q : Nat) (x : Wz), xs[q]? = some x → x.ok ∧ ∃ y, A = some y ∧ ∀ j v, x.cs[j]? = some v → w.cell? (y.add (q * 11 + j)) = some v
theorem Rz.below {w w' : World} {A : Option Addr} {xs : List Wz} (h : Rz w A xs) (hb : Below w.heap.size w w') : Rz w' A xs := by
  refine ⟨h.1, fun q x hq => ?_⟩
  obtain ⟨hk, y, hy, hc⟩ := h.2 q x hq
  exact ⟨hk, y, hy, fun j v hv => (hb.cell (World.block_lt_of_cell? _ _ (hc j v hv))).trans (hc j v hv)⟩
theorem size26 : (Tryz.prog.info? 26).map (·.size) = some 11 := by kernel_rfl
theorem load26 {w : World} {y : Addr} {x : Wz} (h : ∀ j v, x.cs[j]? = some v → w.cell? (y.add j) = some v) : (Instr.loadAt 26 (.pointer (some y))).run Tryz.prog w = .ok x.v w := by
  have hl : (loadCells y 11).run Tryz.prog w = .ok x.cs.toArray w := run_loadCells_list (P := Tryz.prog) w y x.cs h
  obtain ⟨i, hi, hs⟩ := Option.map_eq_some_iff.1 size26
  have hg : (isAgg 26).run Tryz.prog w = .ok true w := by
    unfold isAgg
    simp only [Sem.run_bind, run_underlying Tryz.underlying26, Result.andThen_ok, Sem.run_pure]
  have hz : (sizeOf 26).run Tryz.prog w = .ok 11 w := by
    rw [← hs]
    simp [sizeOf, typeInfo, hi]
  simp only [Instr.loadAt, Instr.sureAddr, loadVar, Sem.run_bind, Sem.run_pure, Result.andThen_ok, hg, hz, hl, if_true]
  rfl
theorem at_load26 {ops : Array Oper} {rest : List Oper} {op : Oper} {a : Act} {w : World} {Q : Exit → Act → World → Prop} (x : Operand) (hgd : op.guard = none) (ho : op.op = .load 26 x) (y : Addr) (z : Wz) (hx : a.eval x = .pointer (some y)) (hr : ∀ j v, z.cs[j]? = some v → w.cell? (y.add j) = some v) (h : wpList Tryz.prog ops Q rest (a.put op.dst z.v) w) : wpList Tryz.prog ops Q (op :: rest) a w :=
  wpList_plain hgd fun _ hK => by
    unfold Oper.wp execOp
    simp only [ho, hx, Sem.run_bind, Sem.run_pure, Result.andThen_ok, load26 hr]
    exact hK _ _ h

/-- What a row of texts gives, as a row of rows. -/
def gL (L : List ByteArray) (k : Nat) : ByteArray := L[k]?.getD ⟨#[]⟩
theorem tS_ext (f : ByteArray → Rr × Int) (g g' : Nat → ByteArray) (n : Nat) (h : ∀ k, k < n → g k = g' k) : tS f g n = tS f g' n := by
  induction n with
  | zero => rfl
  | succ n ih => rw [tS, tS, ih (fun k hk => h k (by omega)), h n (by omega)]
theorem tS_snoc (f : ByteArray → Rr × Int) (L : List ByteArray) (s : ByteArray) : tS f (gL (L ++ [s])) (L.length + 1) = (match (tS f (gL L) L.length).2 with
    | some x => ((tS f (gL L) L.length).1, some x)
    | none => if (f s).2 = 8 then ((tS f (gL L) L.length).1, none) else if (f s).2 = 0 then ((tS f (gL L) L.length).1 ++ [(f s).1], none) else ((tS f (gL L) L.length).1, some (L.length, (f s).2))) := by
  have e1 : tS f (gL (L ++ [s])) L.length = tS f (gL L) L.length := tS_ext f _ _ _ fun k hk => by unfold gL; rw [List.getElem?_append_left hk]
  have e2 : gL (L ++ [s]) L.length = s := by simp [gL]
  rw [tS, e1, e2]
  cases (tS f (gL L) L.length).2 <;> rfl
end Go.Proofs.YthpgmlijfcfddaaGreatDoor
