/-
  Nine bytes in memory; the beginning that all statements but one have: their examples, their choice, and a row behind some deeds. Conditions: bytes are bytes.
-/
import Derived.Test.YtenolbgadlehpaaSom
set_option linter.unusedSimpArgs false
set_option linter.unusedVariables false
namespace Go.Proofs.Ytenolbgadlehpaa
open Go.RowKit


theorem size23 : (Try.prog.info? 23).map (·.size) = some 9 := by kernel_rfl
theorem run_size23 (W : World) : (Go.sizeOf 23).run Try.prog W = .ok 9 W := by
  obtain ⟨i, hi, hs⟩ := Option.map_eq_some_iff.1 size23
  rw [← hs]
  simp [Go.sizeOf, typeInfo, hi]
theorem load23 {w : World} {y : Addr} {x : Hc} (h : ∀ j v, (hl x)[j]? = some v → w.cell? (y.add j) = some v) : (Instr.loadAt 23 (.pointer (some y))).run Try.prog w = .ok (.agg (hl x).toArray) w := by
  have hl' : (loadCells y 9).run Try.prog w = .ok (hl x).toArray w := run_loadCells_list (P := Try.prog) w y (hl x) h
  have hg : (isAgg 23).run Try.prog w = .ok true w := by
    unfold isAgg
    simp only [Sem.run_bind, run_underlying Try.underlying23, Result.andThen_ok, Sem.run_pure]
  simp only [Instr.loadAt, Instr.sureAddr, loadVar, Sem.run_bind, Sem.run_pure, Result.andThen_ok, hg, run_size23, hl', if_true]
theorem at_load23 {ops : Array Oper} {rest : List Oper} {op : Oper} {a : Act} {w : World} {Q : Exit → Act → World → Prop} (x : Operand) (hgd : op.guard = none) (ho : op.op = .load 23 x) (y : Addr) (z : Hc) (hx : a.eval x = .pointer (some y)) (hr : ∀ j v, (hl z)[j]? = some v → w.cell? (y.add j) = some v)
    (h : wpList Try.prog ops Q rest (a.put op.dst (.agg #[.int .u8 z.a, .int .u8 z.b, .int .u8 z.c, .int .u8 z.d, .int .u8 z.e, .int .u8 z.f, .int .u8 z.g, .int .u8 z.h, .int .u8 z.i])) w) : wpList Try.prog ops Q (op :: rest) a w :=
  wpList_plain hgd fun _ hK => by
    unfold Oper.wp execOp
    simp only [ho, hx, Sem.run_bind, Sem.run_pure, Result.andThen_ok, load23 hr]
    exact hK _ _ h
section
variable {ops : Array Oper} {rest : List Oper} {o : Oper} {a : Act} {C : World → Prop} {Q : Act → Prop}
theorem quiet_load23 (x : Operand) (y : Addr) (p : Hc) (hr : ∀ W, C W → ∀ j v, (hl p)[j]? = some v → W.cell? (y.add j) = some v) (hw : Region.wanted o (yielded ops a.tmps) = true) (ho : o.op = .load 23 x) (hx : a.eval x = .pointer (some y)) (h : wpQuiet Try.prog ops C Q rest (a.put o.dst (.agg #[.int .u8 p.a, .int .u8 p.b, .int .u8 p.c, .int .u8 p.d, .int .u8 p.e, .int .u8 p.f, .int .u8 p.g, .int .u8 p.h, .int .u8 p.i]))) : wpQuiet Try.prog ops C Q (o :: rest) a :=
  BigFrame.wpQuiet_want hw fun K hK => ⟨.agg #[.int .u8 p.a, .int .u8 p.b, .int .u8 p.c, .int .u8 p.d, .int .u8 p.e, .int .u8 p.f, .int .u8 p.g, .int .u8 p.h, .int .u8 p.i], fun W hC => by
    unfold Oper.quietAt execOp
    simp only [ho, hx, Sem.run_bind, Sem.run_pure, Result.andThen_ok, load23 (hr W hC)]
    exact ⟨rfl, rfl⟩, hK _ h⟩
end

theorem hc_box (w : World) (x : Hc) : ∀ j v, (hl x)[j]? = some v → (w.alloc (Hcx x)).cell? ((⟨w.heap.size, 0, none⟩ : Addr).add j) = some v := by
  intro j v hv
  rw [Addr.add_mid, Nat.zero_add]
  match j, hv with
  | 0, hv => simp [hl] at hv; subst hv; simp [Hcx]
  | 1, hv => simp [hl] at hv; subst hv; simp [Hcx]
  | 2, hv => simp [hl] at hv; subst hv; simp [Hcx]
  | 3, hv => simp [hl] at hv; subst hv; simp [Hcx]
  | 4, hv => simp [hl] at hv; subst hv; simp [Hcx]
  | 5, hv => simp [hl] at hv; subst hv; simp [Hcx]
  | 6, hv => simp [hl] at hv; subst hv; simp [Hcx]
  | 7, hv => simp [hl] at hv; subst hv; simp [Hcx]
  | 8, hv => simp [hl] at hv; subst hv; simp [Hcx]
  | j + 9, hv => simp [hl] at hv
theorem rw_lt {α : Type} {E : El α} {w : World} {A : Option Addr} {xs : List α} (h : Rw E w A xs) : ∀ y, A = some y → 0 < xs.length → y.block < w.heap.size := fun y hy hp => by
  obtain ⟨y', hy', hc⟩ := h.2 0 xs[0] (List.getElem?_eq_getElem hp)
  rw [hy] at hy'
  obtain rfl := Option.some.inj hy'
  have hN := E.pos
  have hl := E.len xs[0]
  have hv : (E.cl xs[0])[0]? = some (E.cl xs[0])[0] := List.getElem?_eq_getElem (by omega)
  have := World.block_lt_of_cell? _ _ (hc 0 _ hv)
  rwa [add_block] at this
theorem Rw.grownN {α : Type} {E : El α} {w w' : World} {A : Option Addr} {xs : List α} {g B : Nat} (h : Rw E w A xs) (hg : w.grownBy w' (some g)) (hb : ∀ y, A = some y → 0 < xs.length → y.block < B) (hB : B ≤ g) : Rw E w' A xs := by
  rcases Nat.eq_zero_or_pos xs.length with h0 | h0
  · rw [List.eq_nil_of_length_eq_zero h0]
    exact Rw.nil _ _
  · refine h.grown hg fun y hy e => ?_
    injection e with e
    have := hb y hy h0
    omega
/-- Nine bytes that lie there. -/
def Hm (W : World) (b : Nat) (x : Hc) : Prop := ∀ j v, (hl x)[j]? = some v → W.cell? ((⟨b, 0, none⟩ : Addr).add j) = some v
theorem Hm.lt {W : World} {b : Nat} {x : Hc} (h : Hm W b x) : b < W.heap.size := by
  have := World.block_lt_of_cell? _ _ (h 0 _ rfl)
  rwa [add_block] at this
theorem Hm.below {W W' : World} {b : Nat} {x : Hc} (h : Hm W b x) (hb : Below W.heap.size W W') : Hm W' b x := fun j v hv => by
  rw [hb.cell (by rw [add_block]; exact h.lt)]
  exact h j v hv
/-- A prefix in a variable. -/
def Bm (W : World) (b : Nat) (x y : Int) : Prop := W.cell? ⟨b, 0, none⟩ = some (.int .u32 x) ∧ W.cell? ⟨b, 1, none⟩ = some (.int .i64 y)
theorem Bm.lt {W : World} {b : Nat} {x y : Int} (h : Bm W b x y) : b < W.heap.size := World.block_lt_of_cell? _ _ h.1
theorem Bm.below {W W' : World} {b : Nat} {x y : Int} (h : Bm W b x y) (hb : Below W.heap.size W W') : Bm W' b x y := ⟨by rw [hb.cell (p := ⟨b, 0, none⟩) h.lt]; exact h.1, by rw [hb.cell (p := ⟨b, 1, none⟩) h.lt]; exact h.2⟩
theorem bm_box (w : World) (x y : Int) : Bm (w.alloc (Bkx x y)) w.heap.size x y := by simp [Bm, Bkx]
end Go.Proofs.Ytenolbgadlehpaa
