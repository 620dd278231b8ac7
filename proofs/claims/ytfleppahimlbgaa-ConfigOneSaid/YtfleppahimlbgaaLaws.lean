/-
  Laws at an operation of a walk: a choice of bytes, a row of three, and what is guarded. No condition.
-/
import Derived.Test.YtfleppahimlbgaaAwake
namespace Go.Proofs.Ytfleppahimlbgaa
open Go.RowKit

def hl (y : Hc) : List Value := [.int .u8 y.a, .int .u8 y.b, .int .u8 y.c, .int .u8 y.d, .int .u8 y.e, .int .u8 y.f, .int .u8 y.g, .int .u8 y.h, .int .u8 y.i]
theorem size25 : (Try.prog.info? 25).map (·.size) = some 9 := by kernel_rfl
/-- Nine bytes that lie in block b. -/
def Hm (w : World) (b : Nat) (y : Hc) : Prop := b < w.heap.size ∧ w.rangeAt b 0 (hl y)
theorem Hm.below {w w' : World} {b : Nat} {y : Hc} (h : Hm w b y) (hb : Below w.heap.size w w') : Hm w' b y :=
  ⟨by have := hb.size; have := h.1; omega, fun j v hv => by rw [hb.cell (p := ⟨b, 0 + j, none⟩) h.1]; exact h.2 j v hv⟩
theorem hm_box (w : World) (y : Hc) : Hm (w.alloc (Hx y)) w.heap.size y := by
  refine ⟨by simp, fun j v hv => ?_⟩
  have h : (w.alloc (Hx y)).heap[w.heap.size]? = some (Hx y) := heap_alloc_new w _
  have e : (w.alloc (Hx y)).cell? ⟨w.heap.size, 0 + j, none⟩ = _ := cell_of_row _ _ _ _ _ _ h
  rw [e, Nat.zero_add, ← hv]
  simp [hl]
theorem loadAt25 {w : World} {b : Nat} {y : Hc} (h : Hm w b y) : (Instr.loadAt 25 (.pointer (some ⟨b, 0, none⟩))).run Try.prog w = .ok (hv y) w := run_loadAt_mid w b 0 25 (hl y) _ h.2 Try.underlying25 rfl size25
/-- Place k's number, and its least and its greatest. -/
def tv (x : Cf) (k : Nat) : Value := .agg #[.int .i64 (x.at k), .int .i64 (lw x k), .int .i64 (hw k)]
theorem run_index28 (x : Cf) (k : Nat) (hk : k < 9) (W : World) : (Instr.index 28 (rv x) (.int .i64 (k : Int))).run Try.prog W = .ok (tv x k) W := by
  unfold rv tv
  rcases nine hk with rfl | rfl | rfl | rfl | rfl | rfl | rfl | rfl | rfl <;>
    simp [Instr.index, run_underlying Try.underlying28, asIntOf, go_sem, Cf.at, Cf.l, lw, hw]

section
variable {ops : Array Oper} {rest : List Oper} {o : Oper} {a : Act} {w : World} {Q : Exit → Act → World → Prop}
theorem wpList_want (hw : Region.wanted o (yielded ops a.tmps) = true) (h : ∀ K : Act → World → Prop, (∀ a w, wpList Try.prog ops Q rest a w → K a w) → o.wp Try.prog a w K Q) : wpList Try.prog ops Q (o :: rest) a w :=
  wpList_step fun K hK => by rw [if_pos hw]; exact h K hK
theorem at_load25 (x : Operand) (b : Nat) (p : Hc) (H : Hm w b p) (hw : Region.wanted o (yielded ops a.tmps) = true) (ho : o.op = .load 25 x) (hx : a.eval x = .pointer (some ⟨b, 0, none⟩))
    (h : wpList Try.prog ops Q rest (a.put o.dst (hv p)) w) : wpList Try.prog ops Q (o :: rest) a w :=
  wpList_want hw fun _ hK => by
    unfold Oper.wp execOp
    simp only [ho, hx, Sem.run_bind, Sem.run_pure, Result.andThen_ok, loadAt25 H]
    exact hK _ _ h
theorem at_eql23 (x y : Operand) (p q : Cf) (hw : Region.wanted o (yielded ops a.tmps) = true) (ho : o.op = .binOp .eql 23 x y 23) (hx : a.eval x = cv p) (hy : a.eval y = cv q)
    (h : wpList Try.prog ops Q rest (a.put o.dst (.bool (eqc p q))) w) : wpList Try.prog ops Q (o :: rest) a w :=
  wpList_want hw fun _ hK => by
    unfold Oper.wp execOp
    simp only [ho, hx, hy, Sem.run_bind, Sem.run_pure, Result.andThen_ok, guard23, run_eql23]
    exact hK _ _ h
theorem at_index28 (x y : Operand) (p : Cf) (k : Nat) (hk : k < 9) (hgd : o.guard = none) (ho : o.op = .index 28 x y) (hx : a.eval x = rv p) (hy : a.eval y = .int .i64 (k : Int))
    (h : wpList Try.prog ops Q rest (a.put o.dst (.agg #[.int .i64 (p.at k), .int .i64 (lw p k), .int .i64 (hw k)])) w) : wpList Try.prog ops Q (o :: rest) a w :=
  wpList_plain hgd fun _ hK => by
    unfold Oper.wp execOp
    simp only [ho, hx, hy, Sem.run_bind, Sem.run_pure, Result.andThen_ok, run_index28 p k hk]
    exact hK _ _ h
end
section
variable {ops : Array Oper} {rest : List Oper} {o : Oper} {a : Act} {C : World → Prop} {Q : Act → Prop}
theorem quiet_load25 (x : Operand) (b : Nat) (p : Hc) (hr : ∀ W, C W → Hm W b p) (hw : Region.wanted o (yielded ops a.tmps) = true) (ho : o.op = .load 25 x) (hx : a.eval x = .pointer (some ⟨b, 0, none⟩)) (h : wpQuiet Try.prog ops C Q rest (a.put o.dst (hv p))) : wpQuiet Try.prog ops C Q (o :: rest) a :=
  BigFrame.wpQuiet_want hw fun K hK => ⟨hv p, fun W hC => by
    unfold Oper.quietAt execOp
    simp only [ho, hx, Sem.run_bind, Sem.run_pure, Result.andThen_ok, loadAt25 (hr W hC)]
    exact ⟨rfl, rfl⟩, hK _ h⟩
theorem quiet_same23 (x y : Operand) (p : Cf) (hw : Region.wanted o (yielded ops a.tmps) = true) (ho : o.op = .binOp .neq 23 x y 23) (hx : a.eval x = cv p) (hy : a.eval y = cv p) (h : wpQuiet Try.prog ops C Q rest (a.put o.dst (.bool false))) : wpQuiet Try.prog ops C Q (o :: rest) a :=
  quiet_neq23 x y p p hw ho hx hy (by rw [eqc_refl]; exact h)
end
/-- The worlds that a region that only reads, and makes memory, may be in. -/
def Rg (w W : World) : Prop := ∃ p : Regrown, W = Sort.grow (redrawn w p.d) p.os
theorem below_rg {w W : World} (h : Rg w W) : Below w.heap.size w W := by
  obtain ⟨p, rfl⟩ := h
  exact below_regrown w p.d p.os
theorem ft_ft (x : Cf) : ft (ft x) = ft x := ok_ft (ft_ok x)
theorem rt_ft (x : Cf) : rt (ft x) = -1 := rt_ok (ft_ok x)
theorem ft_ch (y : Hc) : ft (ch y) = ch y := ok_ft (ch_ok y)
theorem rt_ch (y : Hc) : rt (ch y) = -1 := rt_ok (ch_ok y)
end Go.Proofs.Ytfleppahimlbgaa
