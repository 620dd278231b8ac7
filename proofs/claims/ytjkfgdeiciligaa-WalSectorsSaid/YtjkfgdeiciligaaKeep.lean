/-
  The contract of keep: the first bytes of a write are carried out. Conditions: a disk is there, the sector is one of its, and the number of bytes is at most 64.
-/
import Derived.Test.YtjkfgdeiciligaaCount
import Derived.Laws.IdiomCopy
namespace Go.Proofs.Ytjkfgdeiciligaa
open Go.RowKit

/-- The first m bytes of a sector are those of another. -/
def ov (kept : Nat → Nat → Nat) (a m : Nat) (s : Nat → Nat) : Nat → Nat → Nat := fun i j => if i = a ∧ j < m then s j else kept i j
def wv (x : Nat × (Nat → Nat)) : Value := .agg (wc x).toArray

def OS (s : Nat → Nat) : Obj := .cells (sc s).toArray 52
def OW (x : Nat × (Nat → Nat)) : Obj := .cells (wc x).toArray 73
section
variable {ops : Array Oper} {rest : List Oper} {op : Oper} {a : Act} {w : World} {Q : Exit → Act → World → Prop}
theorem at_box38 (x : Operand) (hgd : op.guard = none) (ho : op.op = .box 52 x) (s : Nat → Nat) (hx : a.eval x = sv s) (h : wpList Try.prog ops Q rest (a.put op.dst (.pointer (some ⟨w.heap.size, 0, none⟩))) (w.alloc (OS s))) : wpList Try.prog ops Q (op :: rest) a w :=
  wpList_plain hgd fun _ hK => by
    have e : (Instr.box 52 (sv s)).run Try.prog w = .ok (.pointer (some ⟨w.heap.size, 0, none⟩)) (w.alloc (OS s)) := by
      simp [Instr.box, newVar, newRow, sv, OS, Value.cells, go_sem]
    unfold Oper.wp execOp
    simp only [ho, hx, Sem.run_bind, Sem.run_pure, Result.andThen_ok, e]
    exact hK _ _ h
theorem at_box61 (x : Operand) (hgd : op.guard = none) (ho : op.op = .box 73 x) (y : Nat × (Nat → Nat)) (hx : a.eval x = wv y) (h : wpList Try.prog ops Q rest (a.put op.dst (.pointer (some ⟨w.heap.size, 0, none⟩))) (w.alloc (OW y))) : wpList Try.prog ops Q (op :: rest) a w :=
  wpList_plain hgd fun _ hK => by
    have e : (Instr.box 73 (wv y)).run Try.prog w = .ok (.pointer (some ⟨w.heap.size, 0, none⟩)) (w.alloc (OW y)) := by
      simp [Instr.box, newVar, newRow, wv, OW, Value.cells, go_sem]
    unfold Oper.wp execOp
    simp only [ho, hx, Sem.run_bind, Sem.run_pure, Result.andThen_ok, e]
    exact hK _ _ h
end
theorem rangeOW (w : World) (x : Nat × (Nat → Nat)) : (w.alloc (OW x)).rangeAt w.heap.size 0 (wc x) := by
  intro j v hv
  rw [cell_of_row _ _ _ _ _ _ (show (w.alloc (OW x)).heap[w.heap.size]? = some (.cells (wc x).toArray 73 (0, 0)) from heap_alloc_new _ _), Nat.zero_add]
  simpa using hv
theorem rangeOS (w : World) (s : Nat → Nat) : (w.alloc (OS s)).rangeAt w.heap.size 0 (sc s) := by
  intro j v hv
  rw [cell_of_row _ _ _ _ _ _ (show (w.alloc (OS s)).heap[w.heap.size]? = some (.cells (sc s).toArray 52 (0, 0)) from heap_alloc_new _ _), Nat.zero_add]
  simpa using hv
theorem wc_head {w : World} {b o : Nat} {x : Nat × (Nat → Nat)} (h : w.rangeAt b o (wc x)) : w.cell? ⟨b, o, none⟩ = some (.int .i64 (x.1 : Int)) := h 0 _ rfl
theorem wc_tail {w : World} {b o : Nat} {x : Nat × (Nat → Nat)} (h : w.rangeAt b o (wc x)) : w.rangeAt b (o + 1) (sc x.2) := fun j v hv => by
  rw [show o + 1 + j = o + (j + 1) by omega]
  exact h (j + 1) v (by simpa [wc] using hv)

theorem step_copy {ops : Array Oper} {op : Oper} {a : Act} {w : World} {K : Act → World → Prop} {Q : Exit → Act → World → Prop} {E : Prop} (hgd : op.guard = none) (s x : Operand) (ho : op.op = .call { callee := .builtin .copy, args := #[s, x], argTypes := #[33, 33] })
    (b o m c : Nat) (hs : a.eval s = .slice (some ⟨b, o, none⟩) m c) (g o2 c2 : Nat) (hx : a.eval x = .slice (some ⟨g, o2, none⟩) m c2) (cs : List Value) (hl : cs.length = m) (hsrc : w.rangeAt g o2 cs) (ht : w.there b o m) (h1 : ∀ v ∈ cs, v.oneCell' = true)
    (hK : K (a.put op.dst (goInt m)) (w.setCells b o cs)) : if Region.wanted op (yielded ops a.tmps) = true then Oper.wp Try.prog op a w K Q else E := by
  have hw : Region.wanted op (yielded ops a.tmps) = true := by simp [Region.wanted, hgd]
  rw [if_pos hw]
  have hrun := run_copy_cells (P := Try.prog) w 33 33 op.type 5 b o m c ⟨g, o2, none⟩ m c2 cs Try.underlying33 (by kernel_rfl) (by rw [hl]; exact (Nat.min_self m).symm) (fun j v hv => by rw [Addr.add_mid]; exact hsrc j v hv) (fun j hj => (ht j (by omega)).1) (fun j hj => (ht j (by omega)).2) h1
  rw [hl] at hrun
  unfold Oper.wp execOp
  simp only [ho, resolve, invoke, builtin, Sem.run_bind, Sem.run_pure, Result.andThen_ok, List.map_toArray, List.map_cons, List.map_nil, hs, hx, hrun]
  exact hK
theorem rangeAt_take {w : World} {b o : Nat} {cs : List Value} (h : w.rangeAt b o cs) (m : Nat) : w.rangeAt b o (cs.take m) := fun j v hv => by
  rw [List.getElem?_take] at hv
  split at hv
  · exact h j v hv
  · cases hv

/-- Part of a sector is written: what the disk is then. -/
theorem Ds.put {w : World} {p k : Nat} {pv : Value} {M : Dk} (h : Ds w p k pv M) (a m : Nat) (s : Nat → Nat) (hm : m ≤ 64) :
    Ds (w.setCells k (a * 64) ((sc s).take m)) p k pv { M with kept := ov M.kept a m s } := by
  refine ⟨?_, ?_, ownsRow_of_block h.own (fun g hg => heap_setCells_other _ _ _ _ _ (fun e => h.gk (e ▸ hg))), h.pk, h.gp, h.gk, h.n, h.ats, h.few, h.len, h.sb, h.fb⟩
  · rw [heap_setCells_other _ _ _ _ _ h.pk]
    exact h.blk
  · refine (rowIs_setCells ((sc s).take m) (a * 64) h.row).congr fun j hj => ?_
    show _ = Value.int .u8 ((if j / 64 = a ∧ j % 64 < m then s (j % 64) else M.kept (j / 64) (j % 64) : Nat) : Int)
    by_cases h1 : a * 64 ≤ j
    · rw [if_pos h1, List.getElem?_take]
      by_cases h2 : j - a * 64 < m
      · rw [if_pos h2, sc_get (by omega), if_pos ⟨by omega, by omega⟩, show j - a * 64 = j % 64 by omega]
        rfl
      · rw [if_neg h2, if_neg (by omega)]
        rfl
    · rw [if_neg h1, if_neg (by omega)]

theorem keep_any (p k : Nat) (pv : Value) (M : Dk) (x : Nat × (Nat → Nat)) (m : Nat) (hx : x.1 < M.n) (hm : m ≤ 64) (w : World) (h : Ds w p k pv M) :
    Calls Try.prog 38 #[.pointer (some ⟨p, 0, none⟩), wv x, .int .i64 (m : Int)] w fun e w' => e = .returned (.tuple #[]) ∧ Ds w' p k pv { M with kept := ov M.kept x.1 m x.2 } ∧ Step w w' (ft p k pv) (ft p k pv) := by
  have H := Lib.hid h
  have hn := h.n
  clear h
  go_enter Try.func38, Try.ntmps38
  go_wp2_with (refine at_box61 _ rfl rfl _ rfl ?_)
  have H1 := Lib.hid (H.out.alloc (OW x))
  have R1 := Lib.hid (rangeOW w x)
  have S1 := Lib.hid (((Step.refl w (ft p k pv)).alloc (OW x)).drew)
  have c0 : (w.alloc (OW x)).cell? ⟨p, 0, none⟩ = some (.slice (some ⟨k, 0, none⟩) M.n M.n) := H1.out.cell 0
  have c1 := wc_head R1.out
  generalize w.alloc (OW x) = w1 at *
  generalize w.heap.size = N at *
  have hx' : (x.1 : Int) < M.n := by omega
  have hm' : (m : Int) ≤ 64 := by omega
  have hr := H1.out.row
  have ht : Hid (w1.drew.there k (x.1 * 64) m) := rowIs_there (w := w1.drew) hr (by have : (x.1 + 1) * 64 ≤ M.n * 64 := Nat.mul_le_mul_right _ hx; omega)
  have hs : Hid (w1.drew.rangeAt N 1 ((sc x.2).take m)) := rangeAt_take (w := w1.drew) (by have := wc_tail R1.out; simpa using this) m
  have hl : ((sc x.2).take m).length = m := by rw [List.length_take, sc_length]; omega
  have D := Lib.hid (H1.out.drew.put x.1 m x.2 hm)
  clear hr
  go_region_law (refine step_copy rfl (.tmp 14) (.tmp 17) rfl k (x.1 * 64) m 64 (by simp [Act.eval, Act.put]) N 1 64 (by simp [Act.eval, Act.put]) ((sc x.2).take m) hl hs.out ht.out (fun v hv => sc_one _ v (List.mem_of_mem_take hv)) ?_)
  all_goals go_end0
  all_goals exact ⟨rfl, D.out, Step.setCells _ _ _ S1.out Ds.fk⟩
end Go.Proofs.Ytjkfgdeiciligaa
