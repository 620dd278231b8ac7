/-
  A deed of the statements: its numbers and bytes, how it lies in a slice that came in, and in a variable of its own. Conditions: as each theorem says.
-/
import Derived.Test.YtjkfgdeiciligaaTexts
import Derived.Deep.Slices
set_option linter.unusedSimpArgs false
namespace Go.Proofs.Ytjkfgdeiciligaa
open Go.RowKit

structure Dd where
  op : Nat
  adr : Option Addr
  len : Nat
  cap : Nat
  zs : List Nat
  long : Nat
def dc (a : Dd) : List Value := [.int .u8 (a.op : Int), .slice a.adr a.len a.cap, .int .u16 (a.long : Int)]
def dv (a : Dd) : Value := .agg (dc a).toArray
/-- A deed, where its first bytes lie (up to 300). -/
structure Dd.ok (a : Dd) (w : World) : Prop where
  op : a.op < 256
  long : a.long < 65536
  cap : a.len ≤ a.cap
  much : a.len ≤ 9223372036854775807
  few : a.zs.length = min a.len 300
  rd : Rd w a.adr a.zs
/-- The deeds that a slice's value has, wherever they lie. -/
def Ra (w : World) (A : Option Addr) (xs : List Dd) : Prop :=
  xs.length ≤ 140737488355328 ∧ ∀ (q : Nat) (a : Dd), xs[q]? = some a → a.ok w ∧ ∃ x, A = some x ∧ ∀ j v, (dc a)[j]? = some v → w.cell? (x.add (q * 3 + j)) = some v
theorem Ra.below {w w' : World} {A : Option Addr} {xs : List Dd} (h : Ra w A xs) (hb : Below w.heap.size w w') : Ra w' A xs := by
  refine ⟨h.1, fun q a hq => ?_⟩
  obtain ⟨hk, x, hx, hc⟩ := h.2 q a hq
  exact ⟨⟨hk.op, hk.long, hk.cap, hk.much, hk.few, hk.rd.below hb⟩, x, hx, fun j v hv => (hb.cell (World.block_lt_of_cell? _ _ (hc j v hv))).trans (hc j v hv)⟩
theorem size_setCells (b : Nat) : ∀ (vs : List Value) (o : Nat) (w : World), (w.setCells b o vs).heap.size = w.heap.size
  | [], _, _ => rfl
  | v :: r, o, w => by rw [World.setCells, size_setCells b r (o + 1)]; simp [World.setCell]
theorem size35 : (Try.prog.info? 35).map (·.size) = some 3 := by kernel_rfl
theorem load35 {w : World} {x : Addr} {a : Dd} (h : ∀ j v, (dc a)[j]? = some v → w.cell? (x.add j) = some v) : (Instr.loadAt 35 (.pointer (some x))).run Try.prog w = .ok (dv a) w := by
  have hl : (loadCells x 3).run Try.prog w = .ok (dc a).toArray w := run_loadCells_list (P := Try.prog) w x (dc a) h
  obtain ⟨i, hi, hs⟩ := Option.map_eq_some_iff.1 size35
  have hg : (isAgg 35).run Try.prog w = .ok true w := by
    unfold isAgg
    simp only [Sem.run_bind, run_underlying Try.underlying35, Result.andThen_ok, Sem.run_pure]
  have hz : (sizeOf 35).run Try.prog w = .ok 3 w := by
    rw [← hs]
    simp [sizeOf, typeInfo, hi]
  simp only [Instr.loadAt, Instr.sureAddr, loadVar, Sem.run_bind, Sem.run_pure, Result.andThen_ok, hg, hz, hl, if_true]
  rfl
theorem dc_length (a : Dd) : (dc a).length = 3 := rfl
theorem dc_one (a : Dd) : ∀ v ∈ dc a, v.oneCell' = true := by
  intro v hv
  simp only [dc, List.mem_cons, List.not_mem_nil, or_false] at hv
  rcases hv with rfl | rfl | rfl <;> rfl
def ZA : Dd := ⟨0, none, 0, 0, [], 0⟩
def OA (a : Dd) : Obj := .cells (dc a).toArray 35
theorem alloc35 (x : Value) (hx : x = .tuple #[]) (w : World) : (Instr.alloc 35 true x).run Try.prog w = .ok (.pointer (some ⟨w.heap.size, 0, none⟩)) (w.alloc (OA ZA)) := by
  subst hx
  have e : OA ZA = .cells #[.int .u8 0, .slice none 0 0, .int .u16 0] 35 := rfl
  rw [e]
  simp [go_sem, Instr.alloc]
theorem store35 {w : World} {b o : Nat} (a : Dd) (h : w.there b o 3) : (Instr.storeAt 35 (.pointer (some ⟨b, o, none⟩)) (dv a)).run Try.prog w = .ok () (w.setCells b o (dc a)) := by
  have := run_storeAt_mid (P := Try.prog) w b o 35 (dc a).toArray (by simpa [dc_length] using h) (by simpa [dc_length] using size35) (all_oneCell_toArray (dc_one a))
  simpa [dv] using this
theorem thereOA (w : World) (a : Dd) : (w.alloc (OA a)).there w.heap.size 0 3 := by
  intro j hj
  have hb : (w.alloc (OA a)).heap[w.heap.size]? = some (.cells (dc a).toArray 35 (0, 0)) := heap_alloc_new _ _
  have hl : j < (dc a).length := hj
  constructor
  · rw [cell_of_row _ _ _ _ _ _ hb]
    simp [hl]
  · unfold World.frozen?
    simp only [hb]
    simp
/-- A new deed of one's own. -/
def heldA (w : World) (a : Dd) : World := (w.alloc (OA ZA)).setCells w.heap.size 0 (dc a)
theorem heldA_below (w : World) (a : Dd) : Below w.heap.size w (heldA w a) := below_setCells w.heap.size (dc a) 0 ((Below.refl _ w).alloc (Nat.le_refl _) _) (Nat.le_refl _)
theorem heldA_range (w : World) (a : Dd) : (heldA w a).rangeAt w.heap.size 0 (dc a) := World.rangeAt_setCells_same _ _ 0 (dc a) (thereOA w _)
theorem heldA_size (w : World) (a : Dd) : w.heap.size < (heldA w a).heap.size := by rw [heldA, size_setCells]; simp
section
variable {ops : Array Oper} {rest : List Oper} {op : Oper} {a : Act} {w : World} {Q : Exit → Act → World → Prop}
theorem at_alloc35 (hgd : op.guard = none) (ho : op.op = .alloc 35) (h : wpList Try.prog ops Q rest (a.put op.dst (.pointer (some ⟨w.heap.size, 0, none⟩))) (w.alloc (OA ZA))) : wpList Try.prog ops Q (op :: rest) a w :=
  wpList_plain hgd fun _ hK => by
    unfold Oper.wp execOp
    simp only [ho, Sem.run_bind, Sem.run_pure, Result.andThen_ok, alloc35 _ rfl w]
    exact hK _ _ h
theorem at_load35 (x : Operand) (hgd : op.guard = none) (ho : op.op = .load 35 x) (y : Addr) (z : Dd) (hx : a.eval x = .pointer (some y)) (hr : ∀ j v, (dc z)[j]? = some v → w.cell? (y.add j) = some v) (h : wpList Try.prog ops Q rest (a.put op.dst (dv z)) w) : wpList Try.prog ops Q (op :: rest) a w :=
  wpList_plain hgd fun _ hK => by
    unfold Oper.wp execOp
    simp only [ho, hx, Sem.run_bind, Sem.run_pure, Result.andThen_ok, load35 hr]
    exact hK _ _ h
theorem at_store35 (x y : Operand) (hgd : op.guard = none) (ho : op.op = .store 35 x y) (b o : Nat) (z : Dd) (hx : a.eval x = .pointer (some ⟨b, o, none⟩)) (hy : a.eval y = dv z) (hr : w.there b o 3) (h : wpList Try.prog ops Q rest (a.put op.dst undef) (w.setCells b o (dc z))) : wpList Try.prog ops Q (op :: rest) a w :=
  wpList_plain hgd fun _ hK => by
    unfold Oper.wp execOp
    simp only [ho, hx, hy, Sem.run_bind, Sem.run_pure, Result.andThen_ok, store35 z hr]
    exact hK _ _ h
end
end Go.Proofs.Ytjkfgdeiciligaa
