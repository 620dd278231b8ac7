/-
  A choice in memory and as a value: what a load, a store, a box and a comparison of it do; and an array of nine numbers, and of nine rows of three. No condition.
-/
import Derived.Test.YtfleppahimlbgaaProg
import Derived.Test.YtfleppahimlbgaaMath
import Derived.WalkKit
import Derived.WalkLawsBesides
import Derived.BigQuiet
import Derived.Deep.QuietTactic
import Derived.Deep.MidRow
import Derived.Deep.CutRange
import Derived.Laws.ResultCell
import Derived.Lib.Hide
import Derived.Lib.MinMax
import Derived.Lib.QuietBelow
import Derived.StillTailTactics
namespace Go.Proofs.Ytfleppahimlbgaa
open Go.RowKit

theorem bcell {W w1 : World} (hb : Below W.heap.size W w1) : (∀ b o, b < W.heap.size → w1.cell? ⟨b, o, none⟩ = W.cell? ⟨b, o, none⟩) ∧ (∀ b o, b < W.heap.size → w1.frozen? ⟨b, o, none⟩ = W.frozen? ⟨b, o, none⟩) :=
  ⟨fun b o h => hb.cell (p := ⟨b, o, none⟩) h, fun b o h => hb.frozen (p := ⟨b, o, none⟩) h⟩
theorem ret_int {k : IntKind} {a b : Int} (h : a = b) : Ending.returned (.int k a) = .returned (.int k b) := by rw [h]
theorem ret_bool {a b : Bool} (h : a = b) : Ending.returned (.bool a) = .returned (.bool b) := by rw [h]
theorem below_drewN {B : Nat} {a w : World} (h : Below B a w) (n : Nat) : Below B a (w.drewN n) := ⟨h.os, h.tape, h.output, h.size, h.block⟩

/-- The cells of a choice, or of an array of nine. -/
def cl (x : Cf) : List Value := [.int .i64 x.a, .int .i64 x.b, .int .i64 x.c, .int .i64 x.d, .int .i64 x.e, .int .i64 x.f, .int .i64 x.g, .int .i64 x.h, .int .i64 x.i]
def cv (x : Cf) : Value := .agg #[.int .i64 x.a, .int .i64 x.b, .int .i64 x.c, .int .i64 x.d, .int .i64 x.e, .int .i64 x.f, .int .i64 x.g, .int .i64 x.h, .int .i64 x.i]
def Cx (x : Cf) (t : TypeId) : Obj := .cells #[.int .i64 x.a, .int .i64 x.b, .int .i64 x.c, .int .i64 x.d, .int .i64 x.e, .int .i64 x.f, .int .i64 x.g, .int .i64 x.h, .int .i64 x.i] t
theorem cl_one (x : Cf) : (cl x).toArray.all (·.oneCell') = true := by simp [cl, Value.oneCell']
theorem cl_at {x : Cf} {k : Nat} (hk : k < 9) : (cl x)[k]? = some (.int .i64 (x.at k)) := by
  rcases nine hk with rfl | rfl | rfl | rfl | rfl | rfl | rfl | rfl | rfl <;> rfl
theorem size23 : (Try.prog.info? 23).map (·.size) = some 9 := by kernel_rfl
theorem size38 : (Try.prog.info? 38).map (·.size) = some 9 := by kernel_rfl
/-- A choice that lies in block b. -/
def Cm (w : World) (b : Nat) (x : Cf) : Prop := w.rangeAt b 0 (cl x)
theorem Cm.at {w : World} {b : Nat} {x : Cf} (h : Cm w b x) {k : Nat} (hk : k < 9) : w.cell? ⟨b, k, none⟩ = some (.int .i64 (x.at k)) := by
  have := h k _ (cl_at hk)
  rwa [Nat.zero_add] at this
theorem Cm.c {w : World} {b : Nat} {x : Cf} (h : Cm w b x) : w.cell? ⟨b, 0, none⟩ = some (.int .i64 x.a) ∧ w.cell? ⟨b, 1, none⟩ = some (.int .i64 x.b) ∧ w.cell? ⟨b, 2, none⟩ = some (.int .i64 x.c) ∧ w.cell? ⟨b, 3, none⟩ = some (.int .i64 x.d) ∧
    w.cell? ⟨b, 4, none⟩ = some (.int .i64 x.e) ∧ w.cell? ⟨b, 5, none⟩ = some (.int .i64 x.f) ∧ w.cell? ⟨b, 6, none⟩ = some (.int .i64 x.g) ∧ w.cell? ⟨b, 7, none⟩ = some (.int .i64 x.h) ∧ w.cell? ⟨b, 8, none⟩ = some (.int .i64 x.i) :=
  ⟨h.at (k := 0) (by omega), h.at (k := 1) (by omega), h.at (k := 2) (by omega), h.at (k := 3) (by omega), h.at (k := 4) (by omega), h.at (k := 5) (by omega), h.at (k := 6) (by omega), h.at (k := 7) (by omega), h.at (k := 8) (by omega)⟩
theorem Cm.keep {w w' : World} {b B : Nat} {x : Cf} (h : Cm w b x) (hb : Below B w w') (hB : b < B) : Cm w' b x := fun j v hv => by
  rw [hb.cell (p := ⟨b, 0 + j, none⟩) hB]; exact h j v hv
theorem Cm.lt {w : World} {b : Nat} {x : Cf} (h : Cm w b x) : b < w.heap.size := World.block_lt_of_cell? _ _ (h.at (k := 0) (by omega))
theorem Cm.below {w w' : World} {b : Nat} {x : Cf} (h : Cm w b x) (hb : Below w.heap.size w w') : Cm w' b x := h.keep hb h.lt
theorem cm_heap {w : World} {b : Nat} {x : Cf} {t : TypeId} (h : w.heap[b]? = some (Cx x t)) : Cm w b x := fun j v hv => by
  have e : w.cell? ⟨b, 0 + j, none⟩ = _ := cell_of_row _ _ _ _ _ _ h
  rw [e, Nat.zero_add, ← hv]
  simp [cl]
theorem cm_box (w : World) (x : Cf) (t : TypeId) : Cm (w.alloc (Cx x t)) w.heap.size x := cm_heap (heap_alloc_new w _)
/-- The same, in a block that may be written. -/
def Cb (w : World) (b : Nat) (x : Cf) : Prop := Cm w b x ∧ w.there b 0 9
theorem Cb.keep {w w' : World} {b B : Nat} {x : Cf} (h : Cb w b x) (hb : Below B w w') (hB : b < B) : Cb w' b x :=
  ⟨h.1.keep hb hB, fun j hj => ⟨by rw [hb.cell (p := ⟨b, 0 + j, none⟩) hB]; exact (h.2 j hj).1, by rw [hb.frozen (p := ⟨b, 0 + j, none⟩) hB]; exact (h.2 j hj).2⟩⟩
theorem Cb.below {w w' : World} {b : Nat} {x : Cf} (h : Cb w b x) (hb : Below w.heap.size w w') : Cb w' b x := h.keep hb h.1.lt
theorem cb_box (w : World) (x : Cf) (t : TypeId) : Cb (w.alloc (Cx x t)) w.heap.size x := by
  refine ⟨cm_box w x t, fun j hj => ?_⟩
  have h : (w.alloc (Cx x t)).heap[w.heap.size]? = some (Cx x t) := heap_alloc_new w _
  have e : (w.alloc (Cx x t)).cell? ⟨w.heap.size, 0 + j, none⟩ = _ := cell_of_row _ _ _ _ _ _ h
  refine ⟨?_, ?_⟩
  · rw [e, Nat.zero_add]
    rcases nine hj with rfl | rfl | rfl | rfl | rfl | rfl | rfl | rfl | rfl <;> rfl
  · unfold World.frozen?
    rw [h]
    simp [Cx]
theorem Cb.put {w : World} {b : Nat} {x : Cf} (h : Cb w b x) (y : Cf) : Cb (w.setCells b 0 (cl y)) b y :=
  ⟨World.rangeAt_setCells_same w b 0 (cl y) h.2, World.there_setCells h.2 b 0 (cl y)⟩
theorem below_put {B b : Nat} {w0 : World} (hb : B ≤ b) : ∀ (vs : List Value) (o : Nat) (w : World), Below B w0 w → Below B w0 (w.setCells b o vs)
  | [], _, _, h => h
  | v :: r, o, w, h => below_put hb r (o + 1) _ (h.setCell (by exact hb) v)
theorem results_cell {P : Program} {fn : Func} {p : Tmp} {ty : TypeId} (h : fn.results = #[.cell p ty]) (tmps : Array Value) (w : World) (x : Addr) (v : Value) (hp : tmps.getD p undef = .pointer (some x)) (hl : (loadVar ty x).run P w = .ok v w) :
    (results fn tmps).run P w = .ok v w := by
  have hp' : tmps[p]?.getD undef = .pointer (some x) := by simpa using hp
  simp [results, h, hp', asAddr, hl]
theorem Cb.drewN {w : World} {b : Nat} {x : Cf} (h : Cb w b x) (n : Nat) : Cb (w.drewN n) b x := ⟨fun j v hv => h.1 j v hv, fun j hj => h.2 j hj⟩
theorem Cm.drewN {w : World} {b : Nat} {x : Cf} (h : Cm w b x) (n : Nat) : Cm (w.drewN n) b x := fun j v hv => h j v hv
def z9 : Cf := ⟨0, 0, 0, 0, 0, 0, 0, 0, 0⟩

theorem load23 {w : World} {b : Nat} {x : Cf} (h : Cm w b x) : (loadVar 23 ⟨b, 0, none⟩).run Try.prog w = .ok (cv x) w := run_loadVar_mid w b 0 23 (cl x) _ h Try.underlying23 rfl size23
theorem load38 {w : World} {b : Nat} {x : Cf} (h : Cm w b x) : (loadVar 38 ⟨b, 0, none⟩).run Try.prog w = .ok (cv x) w := run_loadVar_mid w b 0 38 (cl x) _ h Try.underlying38 rfl size38
theorem loadAt23 {w : World} {b : Nat} {x : Cf} (h : Cm w b x) : (Instr.loadAt 23 (.pointer (some ⟨b, 0, none⟩))).run Try.prog w = .ok (cv x) w := run_loadAt_mid w b 0 23 (cl x) _ h Try.underlying23 rfl size23
theorem loadAt38 {w : World} {b : Nat} {x : Cf} (h : Cm w b x) : (Instr.loadAt 38 (.pointer (some ⟨b, 0, none⟩))).run Try.prog w = .ok (cv x) w := run_loadAt_mid w b 0 38 (cl x) _ h Try.underlying38 rfl size38
theorem run_eq23 (x y : Cf) (W : World) : (Op.equalIn 10000 23 (cv x) (cv y)).run Try.prog W = .ok (eqc x y) W := by
  unfold cv
  rw [show (10000 : Nat) = 9999 + 1 from rfl, run_equalIn_struct W 9999 23 _ _ (by kernel_rfl) (by kernel_rfl)]
  simp [go_sem, part]
  unfold eqc
  by_cases h1 : x.a = y.a <;> by_cases h2 : x.b = y.b <;> by_cases h3 : x.c = y.c <;> try simp [h1, h2, h3]
  by_cases h4 : x.d = y.d <;> by_cases h5 : x.e = y.e <;> by_cases h6 : x.f = y.f <;> try simp [h4, h5, h6]
  by_cases h7 : x.g = y.g <;> by_cases h8 : x.h = y.h <;> by_cases h9 : x.i = y.i <;> simp [h7, h8, h9]
theorem run_eql23 (x y : Cf) (W : World) : (binOp .eql 23 (cv x) (cv y)).run Try.prog W = .ok (.bool (eqc x y)) W := by
  have := run_eql_struct (P := Try.prog) W 23 (cl x).toArray (cl y).toArray
  rw [show Value.agg (cl x).toArray = cv x from rfl, show Value.agg (cl y).toArray = cv y from rfl, run_eq23] at this
  exact this
theorem run_neq23 (x y : Cf) (W : World) : (binOp .neq 23 (cv x) (cv y)).run Try.prog W = .ok (.bool (!eqc x y)) W := by
  have := run_neq_struct (P := Try.prog) W 23 (cl x).toArray (cl y).toArray
  rw [show Value.agg (cl x).toArray = cv x from rfl, show Value.agg (cl y).toArray = cv y from rfl, run_eq23] at this
  exact this
theorem guard23 (op : BinOp) (p q : Operand) (x y : Cf) (W : World) : (eqGuard op 23 p q (cv x) (cv y)).run Try.prog W = .ok () W := run_eqGuard_agg W op 23 p q _ _ (by kernel_rfl)
theorem run_index38 (x : Cf) (k : Nat) (hk : k < 9) (W : World) : (Instr.index 38 (cv x) (.int .i64 (k : Int))).run Try.prog W = .ok (.int .i64 (x.at k)) W := by
  unfold cv
  rcases nine hk with rfl | rfl | rfl | rfl | rfl | rfl | rfl | rfl | rfl <;>
    simp [Instr.index, run_underlying Try.underlying38, asIntOf, go_sem, Cf.at, Cf.l]

section
variable {ops : Array Oper} {rest : List Oper} {o : Oper} {a : Act} {w : World} {Q : Exit → Act → World → Prop}
theorem at_store23 (x y : Operand) (b : Nat) (p q : Cf) (H : Cb w b p) (hgd : o.guard = none) (ho : o.op = .store 23 x y) (hx : a.eval x = .pointer (some ⟨b, 0, none⟩)) (hy : a.eval y = cv q)
    (h : ∀ w', Hid (Cb w' b q) → Hid (∀ B, B ≤ b → Below B w w') → wpList Try.prog ops Q rest (a.put o.dst undef) w') : wpList Try.prog ops Q (o :: rest) a w :=
  wpList_store_mid hgd 23 x y ho b 0 (cl q).toArray hx hy H.2 size23 (cl_one q) (h _ (H.put q) (fun _ hB => below_put hB _ _ _ (Below.refl _ _)))
theorem at_store38 (x y : Operand) (b : Nat) (p q : Cf) (H : Cb w b p) (hgd : o.guard = none) (ho : o.op = .store 38 x y) (hx : a.eval x = .pointer (some ⟨b, 0, none⟩)) (hy : a.eval y = cv q)
    (h : ∀ w', Hid (Cb w' b q) → Hid (∀ B, B ≤ b → Below B w w') → wpList Try.prog ops Q rest (a.put o.dst undef) w') : wpList Try.prog ops Q (o :: rest) a w :=
  wpList_store_mid hgd 38 x y ho b 0 (cl q).toArray hx hy H.2 size38 (cl_one q) (h _ (H.put q) (fun _ hB => below_put hB _ _ _ (Below.refl _ _)))
theorem at_load23 (x : Operand) (b : Nat) (p : Cf) (H : Cm w b p) (hgd : o.guard = none) (ho : o.op = .load 23 x) (hx : a.eval x = .pointer (some ⟨b, 0, none⟩))
    (h : wpList Try.prog ops Q rest (a.put o.dst (cv p)) w) : wpList Try.prog ops Q (o :: rest) a w :=
  wpList_plain hgd fun _ hK => by
    unfold Oper.wp execOp
    simp only [ho, hx, Sem.run_bind, Sem.run_pure, Result.andThen_ok, loadAt23 H]
    exact hK _ _ h
theorem at_load38 (x : Operand) (b : Nat) (p : Cf) (H : Cm w b p) (hgd : o.guard = none) (ho : o.op = .load 38 x) (hx : a.eval x = .pointer (some ⟨b, 0, none⟩))
    (h : wpList Try.prog ops Q rest (a.put o.dst (cv p)) w) : wpList Try.prog ops Q (o :: rest) a w :=
  wpList_plain hgd fun _ hK => by
    unfold Oper.wp execOp
    simp only [ho, hx, Sem.run_bind, Sem.run_pure, Result.andThen_ok, loadAt38 H]
    exact hK _ _ h
theorem at_index38 (x y : Operand) (p : Cf) (k : Nat) (hk : k < 9) (hgd : o.guard = none) (ho : o.op = .index 38 x y) (hx : a.eval x = cv p) (hy : a.eval y = .int .i64 (k : Int))
    (h : wpList Try.prog ops Q rest (a.put o.dst (.int .i64 (p.at k))) w) : wpList Try.prog ops Q (o :: rest) a w :=
  wpList_plain hgd fun _ hK => by
    unfold Oper.wp execOp
    simp only [ho, hx, hy, Sem.run_bind, Sem.run_pure, Result.andThen_ok, run_index38 p k hk]
    exact hK _ _ h
end
section
variable {ops : Array Oper} {rest : List Oper} {o : Oper} {a : Act} {C : World → Prop} {Q : Act → Prop}
theorem quiet_load23 (x : Operand) (b : Nat) (p : Cf) (hr : ∀ W, C W → Cm W b p) (hw : Region.wanted o (yielded ops a.tmps) = true) (ho : o.op = .load 23 x) (hx : a.eval x = .pointer (some ⟨b, 0, none⟩)) (h : wpQuiet Try.prog ops C Q rest (a.put o.dst (cv p))) : wpQuiet Try.prog ops C Q (o :: rest) a :=
  BigFrame.wpQuiet_want hw fun K hK => ⟨cv p, fun W hC => by
    unfold Oper.quietAt execOp
    simp only [ho, hx, Sem.run_bind, Sem.run_pure, Result.andThen_ok, loadAt23 (hr W hC)]
    exact ⟨rfl, rfl⟩, hK _ h⟩
theorem quiet_eql23 (x y : Operand) (p q : Cf) (hw : Region.wanted o (yielded ops a.tmps) = true) (ho : o.op = .binOp .eql 23 x y 23) (hx : a.eval x = cv p) (hy : a.eval y = cv q) (h : wpQuiet Try.prog ops C Q rest (a.put o.dst (.bool (eqc p q)))) : wpQuiet Try.prog ops C Q (o :: rest) a :=
  BigFrame.wpQuiet_want hw fun K hK => ⟨.bool (eqc p q), fun W hC => by
    unfold Oper.quietAt execOp
    simp only [ho, hx, hy, Sem.run_bind, Sem.run_pure, Result.andThen_ok, guard23, run_eql23]
    exact ⟨rfl, rfl⟩, hK _ h⟩
theorem quiet_neq23 (x y : Operand) (p q : Cf) (hw : Region.wanted o (yielded ops a.tmps) = true) (ho : o.op = .binOp .neq 23 x y 23) (hx : a.eval x = cv p) (hy : a.eval y = cv q) (h : wpQuiet Try.prog ops C Q rest (a.put o.dst (.bool (!eqc p q)))) : wpQuiet Try.prog ops C Q (o :: rest) a :=
  BigFrame.wpQuiet_want hw fun K hK => ⟨.bool (!eqc p q), fun W hC => by
    unfold Oper.quietAt execOp
    simp only [ho, hx, hy, Sem.run_bind, Sem.run_pure, Result.andThen_ok, guard23, run_neq23]
    exact ⟨rfl, rfl⟩, hK _ h⟩
end
end Go.Proofs.Ytfleppahimlbgaa
