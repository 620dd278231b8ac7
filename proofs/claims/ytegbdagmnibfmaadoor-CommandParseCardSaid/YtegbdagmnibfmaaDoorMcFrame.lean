/-
  How an argument of type api.Mac (an array of six bytes) reads as data, and back. No condition.
-/
import Derived.Test.YtegbdagmnibfmaaDoorRows
import Derived.Test.YtegbdagmnibfmaaDoorMcAwake
import Derived.ProofKit
import Derived.OpenShut
import Derived.ShutString
namespace Go.Proofs.YtegbdagmnibfmaaDoor.Mc
open Go.ChangeShapes Go.WideShapes Go.ChangeAt Go.RowKit

theorem own : ownKnob Tryd.prog.godebug = none := by kernel_rfl
theorem cells23 : Tryd.prog.cellsOf 32 = 6 := by kernel_rfl
theorem cells5 : Tryd.prog.cellsOf 5 = 1 := by kernel_rfl

theorem array6 {α : Type} {cs : Array α} (h : cs.size = 6) : ∃ c0 c1 c2 c3 c4 c5, cs = #[c0, c1, c2, c3, c4, c5] := by
  obtain ⟨l⟩ := cs
  match l, h with
  | [c0, c1, c2, c3, c4, c5], _ => exact ⟨c0, c1, c2, c3, c4, c5, rfl⟩
theorem list6 {α : Type} {l : List α} (h : l.length = 6) : ∃ c0 c1 c2 c3 c4 c5, l = [c0, c1, c2, c3, c4, c5] := by
  match l, h with
  | [c0, c1, c2, c3, c4, c5], _ => exact ⟨c0, c1, c2, c3, c4, c5, rfl⟩

section
variable {H : Type} {enc : TypeId × Value → H} {w : World} {base : Nat} {spare : Nat → Bool} {held : Bool}

set_option maxRecDepth 100000 in
theorem open_mac {r : Reach} {q : Nat} {v : Value} {d : DataW H} {p : List MemPlace} (hv : Value.okWide Tryd.prog w r q 32 v) (h : DataW.Trod enc Tryd.prog w base spare held 32 v d p) :
    ∃ b0 b1 b2 b3 b4 b5 : Int, v = .agg #[.int .u8 b0, .int .u8 b1, .int .u8 b2, .int .u8 b3, .int .u8 b4, .int .u8 b5] ∧
      d = .agg [.lit (.int .u8 b0), .lit (.int .u8 b1), .lit (.int .u8 b2), .lit (.int .u8 b3), .lit (.int .u8 b4), .lit (.int .u8 b5)] ∧ p = [] ∧ Six b0 b1 b2 b3 b4 b5 := by
  have hv' : ∃ cs, v = .agg cs ∧ cs.size = Tryd.prog.cellsOf 32 := by
    simp only [Value.okWide, Tryd.underlying32] at hv
    obtain ⟨cs, h1, h2, _⟩ := hv
    exact ⟨cs, h1, h2⟩
  obtain ⟨cs, rfl, hsz⟩ := hv'
  obtain ⟨c0, c1, c2, c3, c4, c5, rfl⟩ := array6 (hsz.trans cells23)
  obtain ⟨fuel, hf⟩ := h
  obtain ⟨xs, m, _, ex, _, hl, hel⟩ := DataW.trod_array Tryd.underlying32 hf
  obtain ⟨y0, y1, y2, y3, y4, y5, rfl⟩ := list6 hl
  have e0 := hel 0 (by omega)
  have e1 := hel 1 (by omega)
  have e2 := hel 2 (by omega)
  have e3 := hel 3 (by omega)
  have e4 := hel 4 (by omega)
  have e5 := hel 5 (by omega)
  simp only [cells5, Value.cells] at e0 e1 e2 e3 e4 e5
  obtain ⟨b0, q0, rfl, w0⟩ := DataW.trod_int Tryd.underlying5 (show DataW.trod enc Tryd.prog w base spare held m 5 [c0] = some y0 from e0)
  obtain ⟨b1, q1, rfl, w1⟩ := DataW.trod_int Tryd.underlying5 (show DataW.trod enc Tryd.prog w base spare held m 5 [c1] = some y1 from e1)
  obtain ⟨b2, q2, rfl, w2⟩ := DataW.trod_int Tryd.underlying5 (show DataW.trod enc Tryd.prog w base spare held m 5 [c2] = some y2 from e2)
  obtain ⟨b3, q3, rfl, w3⟩ := DataW.trod_int Tryd.underlying5 (show DataW.trod enc Tryd.prog w base spare held m 5 [c3] = some y3 from e3)
  obtain ⟨b4, q4, rfl, w4⟩ := DataW.trod_int Tryd.underlying5 (show DataW.trod enc Tryd.prog w base spare held m 5 [c4] = some y4 from e4)
  obtain ⟨b5, q5, rfl, w5⟩ := DataW.trod_int Tryd.underlying5 (show DataW.trod enc Tryd.prog w base spare held m 5 [c5] = some y5 from e5)
  simp only [List.cons.injEq, and_true] at q0 q1 q2 q3 q4 q5
  subst q0 q1 q2 q3 q4 q5
  simp only [Prod.mk.injEq] at ex
  have k0 := bounds_u8 w0
  have k1 := bounds_u8 w1
  have k2 := bounds_u8 w2
  have k3 := bounds_u8 w3
  have k4 := bounds_u8 w4
  have k5 := bounds_u8 w5
  exact ⟨b0, b1, b2, b3, b4, b5, rfl, ex.1, ex.2, ⟨k0.1, by omega, k1.1, by omega, k2.1, by omega, k3.1, by omega, k4.1, by omega, k5.1, by omega⟩⟩

theorem wf_byte {n : Int} (h0 : 0 ≤ n) (h1 : n < 256) : (Lit.int .u8 n).wf = true := by
  simp [Lit.wf, IntKind.min, IntKind.max, IntKind.signed, IntKind.bits]; omega
theorem shut_mac {b0 b1 b2 b3 b4 b5 : Int} (h : Six b0 b1 b2 b3 b4 b5) :
    DataW.Trod enc Tryd.prog w base spare held 32 (.agg #[.int .u8 b0, .int .u8 b1, .int .u8 b2, .int .u8 b3, .int .u8 b4, .int .u8 b5])
      (.agg [.lit (.int .u8 b0), .lit (.int .u8 b1), .lit (.int .u8 b2), .lit (.int .u8 b3), .lit (.int .u8 b4), .lit (.int .u8 b5)]) [] := by
  refine ⟨2, ?_⟩
  have hi : ∀ n : Int, 0 ≤ n → n < 256 → DataW.trod enc Tryd.prog w base spare held 1 5 [.int .u8 n] = some (.lit (.int .u8 n), []) := fun n a b => by
    simp [DataW.trod, Tryd.underlying5, wf_byte a b]
  unfold DataW.trod
  simp only [Tryd.underlying32, cells23, cells5, Value.cells]
  rw [if_pos (by rfl)]
  simp [List.range, List.range.loop, List.mapM_cons, hi _ h.h0 h.g0, hi _ h.h1 h.g1, hi _ h.h2 h.g2, hi _ h.h3 h.g3, hi _ h.h4 h.g4, hi _ h.h5 h.g5]
end
end Go.Proofs.YtegbdagmnibfmaaDoor.Mc
