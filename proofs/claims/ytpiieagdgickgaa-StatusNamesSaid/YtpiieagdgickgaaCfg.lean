/-
  A choice in memory and as a value; slices of rows of sightings. No condition.
-/
import Derived.Test.YtpiieagdgickgaaSts
set_option linter.unusedSimpArgs false
set_option linter.unusedVariables false
namespace Go.Proofs.Ytpiieagdgickgaa
open Go.RowKit

/-- A choice. -/
structure Cf where
  a : Int
  b : Int
  c : Int
  d : Int
  e : Int
  f : Int
  g : Int
  h : Int
  i : Int
def cfl (x : Cf) : List Value := [.int .i64 x.a, .int .i64 x.b, .int .i64 x.c, .int .i64 x.d, .int .i64 x.e, .int .i64 x.f, .int .i64 x.g, .int .i64 x.h, .int .i64 x.i]
def cfv (x : Cf) : Value := .agg #[.int .i64 x.a, .int .i64 x.b, .int .i64 x.c, .int .i64 x.d, .int .i64 x.e, .int .i64 x.f, .int .i64 x.g, .int .i64 x.h, .int .i64 x.i]
def Cfx (x : Cf) : Obj := .cells #[.int .i64 x.a, .int .i64 x.b, .int .i64 x.c, .int .i64 x.d, .int .i64 x.e, .int .i64 x.f, .int .i64 x.g, .int .i64 x.h, .int .i64 x.i] 27
def zf : Cf := ⟨0, 0, 0, 0, 0, 0, 0, 0, 0⟩
/-- A variable with a choice. -/
structure Cm (W : World) (b : Nat) (x : Cf) : Prop where
  lt : b < W.heap.size
  c0 : W.cell? ⟨b, 0, none⟩ = some (.int .i64 x.a)
  c1 : W.cell? ⟨b, 1, none⟩ = some (.int .i64 x.b)
  c2 : W.cell? ⟨b, 2, none⟩ = some (.int .i64 x.c)
  c3 : W.cell? ⟨b, 3, none⟩ = some (.int .i64 x.d)
  c4 : W.cell? ⟨b, 4, none⟩ = some (.int .i64 x.e)
  c5 : W.cell? ⟨b, 5, none⟩ = some (.int .i64 x.f)
  c6 : W.cell? ⟨b, 6, none⟩ = some (.int .i64 x.g)
  c7 : W.cell? ⟨b, 7, none⟩ = some (.int .i64 x.h)
  c8 : W.cell? ⟨b, 8, none⟩ = some (.int .i64 x.i)
theorem cm_box (w : World) (x : Cf) : Cm (w.alloc (Cfx x)) w.heap.size x := ⟨by simp, by simp [Cfx], by simp [Cfx], by simp [Cfx], by simp [Cfx], by simp [Cfx], by simp [Cfx], by simp [Cfx], by simp [Cfx], by simp [Cfx]⟩
theorem Cm.keep {W W' : World} {b B : Nat} {x : Cf} (h : Cm W b x) (hb : Below B W W') (hB : b < B) (hs : W.heap.size ≤ W'.heap.size) : Cm W' b x :=
  ⟨Nat.lt_of_lt_of_le h.lt hs, by rw [hb.cell (p := ⟨b, 0, none⟩) hB]; exact h.c0, by rw [hb.cell (p := ⟨b, 1, none⟩) hB]; exact h.c1, by rw [hb.cell (p := ⟨b, 2, none⟩) hB]; exact h.c2, by rw [hb.cell (p := ⟨b, 3, none⟩) hB]; exact h.c3, by rw [hb.cell (p := ⟨b, 4, none⟩) hB]; exact h.c4, by rw [hb.cell (p := ⟨b, 5, none⟩) hB]; exact h.c5, by rw [hb.cell (p := ⟨b, 6, none⟩) hB]; exact h.c6, by rw [hb.cell (p := ⟨b, 7, none⟩) hB]; exact h.c7, by rw [hb.cell (p := ⟨b, 8, none⟩) hB]; exact h.c8⟩
theorem Cm.below {W W' : World} {b : Nat} {x : Cf} (h : Cm W b x) (hb : Below W.heap.size W W') : Cm W' b x := h.keep hb h.lt hb.size
theorem Cm.at {W : World} {b : Nat} {x : Cf} (h : Cm W b x) : ∀ j v, (cfl x)[j]? = some v → W.cell? ((⟨b, 0, none⟩ : Addr).add j) = some v := by
  intro j v hv
  rw [Addr.add_mid, Nat.zero_add]
  match j, hv with
  | 0, hv => simp [cfl] at hv; subst hv; exact h.c0
  | 1, hv => simp [cfl] at hv; subst hv; exact h.c1
  | 2, hv => simp [cfl] at hv; subst hv; exact h.c2
  | 3, hv => simp [cfl] at hv; subst hv; exact h.c3
  | 4, hv => simp [cfl] at hv; subst hv; exact h.c4
  | 5, hv => simp [cfl] at hv; subst hv; exact h.c5
  | 6, hv => simp [cfl] at hv; subst hv; exact h.c6
  | 7, hv => simp [cfl] at hv; subst hv; exact h.c7
  | 8, hv => simp [cfl] at hv; subst hv; exact h.c8
  | j + 9, hv => simp [cfl] at hv
theorem size27 : (Try.prog.info? 27).map (·.size) = some 9 := by kernel_rfl
theorem load27 {w : World} {y : Addr} {x : Cf} (h : ∀ j v, (cfl x)[j]? = some v → w.cell? (y.add j) = some v) : (Instr.loadAt 27 (.pointer (some y))).run Try.prog w = .ok (cfv x) w := by
  have hl' : (loadCells y 9).run Try.prog w = .ok (cfl x).toArray w := run_loadCells_list (P := Try.prog) w y (cfl x) h
  obtain ⟨i, hi, hs⟩ := Option.map_eq_some_iff.1 size27
  have hg : (isAgg 27).run Try.prog w = .ok true w := by
    unfold isAgg
    simp only [Sem.run_bind, run_underlying Try.underlying27, Result.andThen_ok, Sem.run_pure]
  have hz : (Go.sizeOf 27).run Try.prog w = .ok 9 w := by
    rw [← hs]
    simp [Go.sizeOf, typeInfo, hi]
  simp only [Instr.loadAt, Instr.sureAddr, loadVar, Sem.run_bind, Sem.run_pure, Result.andThen_ok, hg, hz, hl', if_true]
  rfl
theorem at_load27 {ops : Array Oper} {rest : List Oper} {op : Oper} {a : Act} {w : World} {Q : Exit → Act → World → Prop} (x : Operand) (hgd : op.guard = none) (ho : op.op = .load 27 x) (y : Addr) (z : Cf) (hx : a.eval x = .pointer (some y)) (hr : ∀ j v, (cfl z)[j]? = some v → w.cell? (y.add j) = some v)
    (h : wpList Try.prog ops Q rest (a.put op.dst (.agg #[.int .i64 z.a, .int .i64 z.b, .int .i64 z.c, .int .i64 z.d, .int .i64 z.e, .int .i64 z.f, .int .i64 z.g, .int .i64 z.h, .int .i64 z.i])) w) : wpList Try.prog ops Q (op :: rest) a w :=
  wpList_plain hgd fun _ hK => by
    unfold Oper.wp execOp
    simp only [ho, hx, Sem.run_bind, Sem.run_pure, Result.andThen_ok, load27 hr]
    exact hK _ _ h

theorem size48' (W : World) : (Go.sizeOf 48).run Try.prog W = .ok 8 W := by
  obtain ⟨i, hi, hs⟩ := Option.map_eq_some_iff.1 size48
  rw [← hs]
  simp [Go.sizeOf, typeInfo, hi]
theorem slS_l (A : Option Addr) (n c k : Nat) (hk : k ≤ n) (hc : n ≤ c) (W : World) : (Instr.slice 29 (.slice A n c) (some (.int .i64 (k : Int))) none none).run Try.prog W = .ok (.slice (dA 8 A c k) (n - k) (c - k)) W := by
  have h1 : (k : Int) ≤ n := by omega
  unfold Instr.slice Instr.sliceBounds Instr.sliceBound
  simp only [Sem.run_bind, run_underlying Try.underlying29, Result.andThen_ok, Sem.run_pure, size48', asIntOf]
  try simp only [Option.isSome_none, Bool.false_eq_true, if_false, Sem.run_bind, Sem.run_pure, Result.andThen_ok]
  rw [if_pos ⟨by omega, h1⟩]
  simp only [Sem.run_bind, Sem.run_pure, Result.andThen_ok, Int.toNat_natCast]
  rfl
theorem slS_h (A : Option Addr) (n c i : Nat) (hi : i ≤ c) (W : World) : (Instr.slice 29 (.slice A n c) none (some (.int .i64 (i : Int))) none).run Try.prog W = .ok (.slice A i c) W := by
  have h1 : (i : Int) ≤ c := by omega
  have h2 : A.map (·.add (0 * 8)) = A := by cases A <;> simp [Addr.add]
  unfold Instr.slice Instr.sliceBounds Instr.sliceBound
  simp only [Sem.run_bind, run_underlying Try.underlying29, Result.andThen_ok, Sem.run_pure, size48', asIntOf]
  try simp only [Option.isSome_none, Bool.false_eq_true, if_false, Sem.run_bind, Sem.run_pure, Result.andThen_ok]
  rw [if_pos ⟨by omega, h1⟩]
  simp only [Sem.run_bind, Sem.run_pure, Result.andThen_ok, h2, ite_self, Nat.sub_zero, Int.toNat_natCast]
theorem at_sliceL {ops : Array Oper} {rest : List Oper} {op : Oper} {a : Act} {w : World} {Q : Exit → Act → World → Prop} (x l : Operand) (hgd : op.guard = none) (ho : op.op = .slice 29 x (some l) none none) (A : Option Addr) (n c k : Nat) (hx : a.eval x = .slice A n c) (hl : a.eval l = .int .i64 (k : Int)) (hk : k ≤ n) (hc : n ≤ c)
    (h : wpList Try.prog ops Q rest (a.put op.dst (.slice (dA 8 A c k) (n - k) (c - k))) w) : wpList Try.prog ops Q (op :: rest) a w :=
  wpList_plain hgd fun _ hK => by
    have hr : (Instr.sliceAt 29 (.slice A n c) (some (.int .i64 (k : Int))) none none).run Try.prog w = .ok (.slice (dA 8 A c k) (n - k) (c - k)) w := by
      have := slS_l A n c k hk hc w
      simpa only [Instr.sliceAt, Sem.run_bind, run_underlying Try.underlying29, Result.andThen_ok] using this
    unfold Oper.wp execOp
    simp only [ho, hx, hl, Option.map_some, Option.map_none, Sem.run_bind, Sem.run_pure, Result.andThen_ok, hr]
    exact hK _ _ h
end Go.Proofs.Ytpiieagdgickgaa
