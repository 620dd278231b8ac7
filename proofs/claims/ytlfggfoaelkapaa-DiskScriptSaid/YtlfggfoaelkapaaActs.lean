/-
  A deed of DiskScript: its numbers, how it lies in a slice that came in, and in a variable of its own. Conditions: xs each theorem says.
-/
import Derived.Test.YtlfggfoaelkapaaInv
import Derived.Deep.Slices
set_option linter.unusedSimpArgs false
namespace Go.Proofs.Ytlfggfoaelkapaa
open Go.RowKit

structure Ac where
  op : Nat
  at' : Int
  by' : Nat
  mask : Nat
  torn : Int
  bts : Int
def Ac.ok (a : Ac) : Prop := a.op < 256 ∧ (-32768 ≤ a.at' ∧ a.at' < 32768) ∧ a.by' < 256 ∧ a.mask < 18446744073709551616 ∧ (-128 ≤ a.torn ∧ a.torn < 128) ∧ (-128 ≤ a.bts ∧ a.bts < 128)
def ac (a : Ac) : List Value := [.int .u8 (a.op : Int), .int .i16 a.at', .int .u8 (a.by' : Int), .int .u64 (a.mask : Int), .int .i8 a.torn, .int .i8 a.bts]
def av (a : Ac) : Value := .agg (ac a).toArray
/-- The deeds that a slice's value has, wherever they lie. -/
def Ra (w : World) (A : Option Addr) (xs : List Ac) : Prop :=
  xs.length ≤ 140737488355328 ∧ ∀ q a, xs[q]? = some a → a.ok ∧ ∃ x, A = some x ∧ ∀ j v, (ac a)[j]? = some v → w.cell? (x.add (q * 6 + j)) = some v
theorem Ra.below {w w' : World} {A : Option Addr} {xs : List Ac} (h : Ra w A xs) (hb : Below w.heap.size w w') : Ra w' A xs := by
  refine ⟨h.1, fun q a hq => ?_⟩
  obtain ⟨hk, x, hx, hc⟩ := h.2 q a hq
  exact ⟨hk, x, hx, fun j v hv => (hb.cell (World.block_lt_of_cell? _ _ (hc j v hv))).trans (hc j v hv)⟩
theorem size34 : (Try.prog.info? 34).map (·.size) = some 6 := by kernel_rfl
theorem load34 {w : World} {x : Addr} {a : Ac} (h : ∀ j v, (ac a)[j]? = some v → w.cell? (x.add j) = some v) : (Instr.loadAt 34 (.pointer (some x))).run Try.prog w = .ok (av a) w := by
  have hl : (loadCells x 6).run Try.prog w = .ok (ac a).toArray w := run_loadCells_list (P := Try.prog) w x (ac a) h
  obtain ⟨i, hi, hs⟩ := Option.map_eq_some_iff.1 size34
  have hg : (isAgg 34).run Try.prog w = .ok true w := by
    unfold isAgg
    simp only [Sem.run_bind, run_underlying Try.underlying34, Result.andThen_ok, Sem.run_pure]
  have hz : (sizeOf 34).run Try.prog w = .ok 6 w := by
    rw [← hs]
    simp [sizeOf, typeInfo, hi]
  simp only [Instr.loadAt, Instr.sureAddr, loadVar, Sem.run_bind, Sem.run_pure, Result.andThen_ok, hg, hz, hl, if_true]
  rfl
theorem ac_length (a : Ac) : (ac a).length = 6 := rfl
theorem ac_one (a : Ac) : ∀ v ∈ ac a, v.oneCell' = true := by
  intro v hv
  simp only [ac, List.mem_cons, List.not_mem_nil, or_false] at hv
  rcases hv with rfl | rfl | rfl | rfl | rfl | rfl <;> rfl
def ZA : Ac := ⟨0, 0, 0, 0, 0, 0⟩
def OA (a : Ac) : Obj := .cells (ac a).toArray 34
theorem alloc34 (x : Value) (hx : x = .tuple #[]) (w : World) : (Instr.alloc 34 true x).run Try.prog w = .ok (.pointer (some ⟨w.heap.size, 0, none⟩)) (w.alloc (OA ZA)) := by
  subst hx
  have e : OA ZA = .cells #[.int .u8 0, .int .i16 0, .int .u8 0, .int .u64 0, .int .i8 0, .int .i8 0] 34 := rfl
  rw [e]
  simp [go_sem, Instr.alloc]
theorem store34 {w : World} {b o : Nat} (a : Ac) (h : w.there b o 6) : (Instr.storeAt 34 (.pointer (some ⟨b, o, none⟩)) (av a)).run Try.prog w = .ok () (w.setCells b o (ac a)) := by
  have := run_storeAt_mid (P := Try.prog) w b o 34 (ac a).toArray (by simpa [ac_length] using h) (by simpa [ac_length] using size34) (all_oneCell_toArray (ac_one a))
  simpa [av] using this
theorem thereOA (w : World) (a : Ac) : (w.alloc (OA a)).there w.heap.size 0 6 := by
  intro j hj
  have hb : (w.alloc (OA a)).heap[w.heap.size]? = some (.cells (ac a).toArray 34 (0, 0)) := heap_alloc_new _ _
  have hl : j < (ac a).length := hj
  constructor
  · rw [cell_of_row _ _ _ _ _ _ hb]
    simp [hl]
  · unfold World.frozen?
    simp only [hb]
    simp
/-- A new deed of one's own. -/
def heldA (w : World) (a : Ac) : World := (w.alloc (OA ZA)).setCells w.heap.size 0 (ac a)
theorem heldA_below (w : World) (a : Ac) : Below w.heap.size w (heldA w a) := below_setCells w.heap.size (ac a) 0 ((Below.refl _ w).alloc (Nat.le_refl _) _) (Nat.le_refl _)
theorem heldA_range (w : World) (a : Ac) : (heldA w a).rangeAt w.heap.size 0 (ac a) := World.rangeAt_setCells_same _ _ 0 (ac a) (thereOA w _)
theorem heldA_size (w : World) (a : Ac) : w.heap.size < (heldA w a).heap.size := by rw [heldA, size_setCells]; simp
section
variable {ops : Array Oper} {rest : List Oper} {op : Oper} {a : Act} {w : World} {Q : Exit → Act → World → Prop}
theorem at_alloc34 (hgd : op.guard = none) (ho : op.op = .alloc 34) (h : wpList Try.prog ops Q rest (a.put op.dst (.pointer (some ⟨w.heap.size, 0, none⟩))) (w.alloc (OA ZA))) : wpList Try.prog ops Q (op :: rest) a w :=
  wpList_plain hgd fun _ hK => by
    unfold Oper.wp execOp
    simp only [ho, Sem.run_bind, Sem.run_pure, Result.andThen_ok, alloc34 _ rfl w]
    exact hK _ _ h
theorem at_load34 (x : Operand) (hgd : op.guard = none) (ho : op.op = .load 34 x) (y : Addr) (z : Ac) (hx : a.eval x = .pointer (some y)) (hr : ∀ j v, (ac z)[j]? = some v → w.cell? (y.add j) = some v) (h : wpList Try.prog ops Q rest (a.put op.dst (av z)) w) : wpList Try.prog ops Q (op :: rest) a w :=
  wpList_plain hgd fun _ hK => by
    unfold Oper.wp execOp
    simp only [ho, hx, Sem.run_bind, Sem.run_pure, Result.andThen_ok, load34 hr]
    exact hK _ _ h
theorem at_store34 (x y : Operand) (hgd : op.guard = none) (ho : op.op = .store 34 x y) (b o : Nat) (z : Ac) (hx : a.eval x = .pointer (some ⟨b, o, none⟩)) (hy : a.eval y = av z) (hr : w.there b o 6) (h : wpList Try.prog ops Q rest (a.put op.dst undef) (w.setCells b o (ac z))) : wpList Try.prog ops Q (op :: rest) a w :=
  wpList_plain hgd fun _ hK => by
    unfold Oper.wp execOp
    simp only [ho, hx, hy, Sem.run_bind, Sem.run_pure, Result.andThen_ok, store34 z hr]
    exact hK _ _ h
end
end Go.Proofs.Ytlfggfoaelkapaa
