/-
  How an argument of type Say (seven fields) reads as data, and back. No condition.
-/
import Derived.Test.YtegbdagmnibfmaaDoorRows
import Derived.Test.YtegbdagmnibfmaaDoorSay
import Derived.Test.YtegbdagmnibfmaaDoorMcFrame
import Derived.ProofKit
import Derived.OpenShut
import Derived.ShutString
import Derived.SizedLaws
set_option linter.unusedSimpArgs false
set_option linter.unusedVariables false
namespace Go.Proofs.YtegbdagmnibfmaaDoor
open Go.ChangeShapes Go.WideShapes Go.ChangeAt Go.RowKit

theorem cellsW : Tryd.prog.cellsOf 24 = 7 := by kernel_rfl
theorem cellsU : Tryd.prog.cellsOf 22 = 1 := by kernel_rfl
theorem cellsS : Tryd.prog.cellsOf 9 = 1 := by kernel_rfl
theorem array7 {α : Type} {cs : Array α} (h : cs.size = 7) : ∃ c0 c1 c2 c3 c4 c5 c6, cs = #[c0, c1, c2, c3, c4, c5, c6] := by
  obtain ⟨l⟩ := cs
  match l, h with
  | [c0, c1, c2, c3, c4, c5, c6], _ => exact ⟨c0, c1, c2, c3, c4, c5, c6, rfl⟩
theorem list7 {α : Type} {cs : List α} (h : cs.length = 7) : ∃ c0 c1 c2 c3 c4 c5 c6, cs = [c0, c1, c2, c3, c4, c5, c6] := by
  match cs, h with
  | [c0, c1, c2, c3, c4, c5, c6], _ => exact ⟨c0, c1, c2, c3, c4, c5, c6, rfl⟩
/-- A command by numbers as data. -/
def syd {H : Type} (y : Sy) : DataW H := .agg [.lit (.int .u8 y.wh), .lit (.int .u32 y.ad), .lit (.int .u8 y.bi), .lit (.int .u8 y.ow), .lit (.int .u8 y.ma), .lit (.int .u8 y.sp), .lit (.string y.t.data.toList)]

section
variable {H : Type} {enc : TypeId × Value → H} {w : World} {base : Nat} {spare : Nat → Bool} {held : Bool}
set_option maxRecDepth 100000 in
theorem open_say {r : Reach} {q : Nat} {v : Value} {d : DataW H} {p : List MemPlace} (hv : Value.okWide Tryd.prog w r q 24 v) (h : DataW.Trod enc Tryd.prog w base spare held 24 v d p) :
    ∃ y : Sy, v = syv y ∧ d = syd y ∧ p = [] ∧ Sok y := by
  have hv' : ∃ cs, v = .agg cs ∧ cs.size = Tryd.prog.cellsOf 24 := by
    simp only [Value.okWide, Tryd.underlying24] at hv
    obtain ⟨cs, h1, h2, _⟩ := hv
    exact ⟨cs, h1, h2⟩
  obtain ⟨cs, rfl, hsz⟩ := hv'
  obtain ⟨c0, c1, c2, c3, c4, c5, c6, rfl⟩ := array7 (hsz.trans cellsW)
  obtain ⟨fuel, hf⟩ := h
  obtain ⟨ys, n, _, ex, _, hl, hel⟩ := DataW.trod_struct Tryd.underlying24 hf
  have hl : ys.length = 7 := hl
  obtain ⟨y0, y1, y2, y3, y4, y5, y6, rfl⟩ := list7 hl
  have e0 : DataW.trod enc Tryd.prog w base spare held n 5 (((Value.agg #[c0, c1, c2, c3, c4, c5, c6]).cells.toList.drop 0).take (Tryd.prog.cellsOf 5)) = some y0 := hel 0 _ rfl
  have e1 : DataW.trod enc Tryd.prog w base spare held n 22 (((Value.agg #[c0, c1, c2, c3, c4, c5, c6]).cells.toList.drop 1).take (Tryd.prog.cellsOf 22)) = some y1 := hel 1 _ rfl
  have e2 : DataW.trod enc Tryd.prog w base spare held n 5 (((Value.agg #[c0, c1, c2, c3, c4, c5, c6]).cells.toList.drop 2).take (Tryd.prog.cellsOf 5)) = some y2 := hel 2 _ rfl
  have e3 : DataW.trod enc Tryd.prog w base spare held n 5 (((Value.agg #[c0, c1, c2, c3, c4, c5, c6]).cells.toList.drop 3).take (Tryd.prog.cellsOf 5)) = some y3 := hel 3 _ rfl
  have e4 : DataW.trod enc Tryd.prog w base spare held n 5 (((Value.agg #[c0, c1, c2, c3, c4, c5, c6]).cells.toList.drop 4).take (Tryd.prog.cellsOf 5)) = some y4 := hel 4 _ rfl
  have e5 : DataW.trod enc Tryd.prog w base spare held n 5 (((Value.agg #[c0, c1, c2, c3, c4, c5, c6]).cells.toList.drop 5).take (Tryd.prog.cellsOf 5)) = some y5 := hel 5 _ rfl
  have e6 : DataW.trod enc Tryd.prog w base spare held n 9 (((Value.agg #[c0, c1, c2, c3, c4, c5, c6]).cells.toList.drop 6).take (Tryd.prog.cellsOf 9)) = some y6 := hel 6 _ rfl
  simp only [cellsU, cellsS, Mc.cells5, Value.cells, List.drop_zero, List.drop_succ_cons, List.take_succ_cons, List.take_zero] at e0 e1 e2 e3 e4 e5 e6
  obtain ⟨a0, q0, rfl, w0⟩ := DataW.trod_int Tryd.underlying5 e0
  obtain ⟨a1, q1, rfl, w1⟩ := DataW.trod_int Tryd.underlying22 e1
  obtain ⟨a2, q2, rfl, w2⟩ := DataW.trod_int Tryd.underlying5 e2
  obtain ⟨a3, q3, rfl, w3⟩ := DataW.trod_int Tryd.underlying5 e3
  obtain ⟨a4, q4, rfl, w4⟩ := DataW.trod_int Tryd.underlying5 e4
  obtain ⟨a5, q5, rfl, w5⟩ := DataW.trod_int Tryd.underlying5 e5
  obtain ⟨a6, q6, rfl, w6⟩ := DataW.trod_string Tryd.underlying9 e6
  simp only [List.cons.injEq, and_true] at q0 q1 q2 q3 q4 q5 q6
  subst q0 q1 q2 q3 q4 q5 q6
  simp only [Prod.mk.injEq] at ex
  have k0 := bounds_u8 w0
  have k1 := bounds_u32 w1
  have k2 := bounds_u8 w2
  have k3 := bounds_u8 w3
  have k4 := bounds_u8 w4
  have k5 := bounds_u8 w5
  exact ⟨⟨a0, a1, a2, a3, a4, a5, a6⟩, rfl, ex.1, ex.2, ⟨k0.1, by show a0 < _; omega, k1.1, by show a1 < _; omega, k2.1, by show a2 < _; omega, k3.1, by show a3 < _; omega, k4.1, by show a4 < _; omega, k5.1, by show a5 < _; omega, w6⟩⟩

theorem wf_u32' {n : Int} (h0 : 0 ≤ n) (h1 : n < 4294967296) : (Lit.int .u32 n).wf = true := by
  simp [Lit.wf, IntKind.min, IntKind.max, IntKind.signed, IntKind.bits]; omega
set_option maxRecDepth 100000 in
theorem shut_say {y : Sy} (h : Sok y) : DataW.Trod enc Tryd.prog w base spare held 24 (syv y) (syd y) [] := by
  refine ⟨3, ?_⟩
  have hi : ∀ (n : Int), 0 ≤ n → n < 256 → DataW.trod enc Tryd.prog w base spare held 2 5 [.int .u8 n] = some (.lit (.int .u8 n), []) := fun n a b => by
    simp [DataW.trod, Tryd.underlying5, Mc.wf_byte a b]
  have hu : DataW.trod enc Tryd.prog w base spare held 2 22 [.int .u32 y.ad] = some (.lit (.int .u32 y.ad), []) := by
    simp [DataW.trod, Tryd.underlying22, wf_u32' h.ad0 h.ad1]
  have hs : DataW.trod enc Tryd.prog w base spare held 2 9 [.string y.t] = some (.lit (.string y.t.data.toList), []) := by
    simp [DataW.trod, Tryd.underlying9, h.ts]
  unfold DataW.trod syv syd
  simp only [Tryd.underlying24, cellsW, Value.cells]
  rw [if_pos (by rfl)]
  simp [List.mapM_cons, cellsU, cellsS, Mc.cells5, hu, hs, hi _ h.wh0 h.wh1, hi _ h.bi0 h.bi1, hi _ h.ow0 h.ow1, hi _ h.ma0 h.ma1, hi _ h.sp0 h.sp1]
/-- The text in the command is one that a process can hold. -/
theorem sized_say {ts : List TypeId} {ds : List (DataW H)} (h : (DataW.weightsEach Tryd.prog ts ds).all (· ≤ reachBytes) = true) {j : Nat} {y : Sy} (ht : ts[j]? = some 24) (hd : ds[j]? = some (syd y)) : y.t.size ≤ 140737488351232 := by
  have h1 := List.all_eq_true.1 h _ (DataW.weights_mem_each ht hd y.t.data.toList.length (by simp [DataW.weights, DataW.weightsEach, syd, Tryd.underlying24]))
  have h2 : y.t.data.toList.length ≤ reachBytes := by simpa using h1
  rw [← Lib.size_eq] at h2
  exact h2
end
end Go.Proofs.YtegbdagmnibfmaaDoor
