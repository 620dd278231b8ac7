/-
  How an argument of type Words (six fields, eleven cells) reads as data, and back. No condition.
-/
import Derived.Test.YthpgmlijfcfddaaGreatDoorRows
import Derived.Test.YthpgmlijfcfddaaGreatDoorMcFrame
import Derived.ProofKit
import Derived.OpenShut
import Derived.ShutString
import Derived.SizedLaws
set_option linter.unusedSimpArgs false
set_option linter.unusedVariables false
namespace Go.Proofs.YthpgmlijfcfddaaGreatDoor
open Go.ChangeShapes Go.WideShapes Go.ChangeAt Go.RowKit

theorem cellsW : Tryz.prog.cellsOf 26 = 11 := by kernel_rfl
theorem cellsU : Tryz.prog.cellsOf 22 = 1 := by kernel_rfl
theorem cellsI : Tryz.prog.cellsOf 3 = 1 := by kernel_rfl
theorem cellsS : Tryz.prog.cellsOf 9 = 1 := by kernel_rfl
theorem array11 {α : Type} {cs : Array α} (h : cs.size = 11) : ∃ c0 c1 c2 c3 c4 c5 c6 c7 c8 c9 c10, cs = #[c0, c1, c2, c3, c4, c5, c6, c7, c8, c9, c10] := by
  obtain ⟨l⟩ := cs
  match l, h with
  | [c0, c1, c2, c3, c4, c5, c6, c7, c8, c9, c10], _ => exact ⟨c0, c1, c2, c3, c4, c5, c6, c7, c8, c9, c10, rfl⟩
/-- The words by numbers, as a value and as data. -/
def wv (a m0 m1 m2 m3 m4 m5 st un sp : Int) (T : ByteArray) : Value := .agg #[.int .u32 a, .int .u8 m0, .int .u8 m1, .int .u8 m2, .int .u8 m3, .int .u8 m4, .int .u8 m5, .int .u8 st, .int .i64 un, .int .u8 sp, .string T]
def wd {H : Type} (a m0 m1 m2 m3 m4 m5 st un sp : Int) (T : ByteArray) : DataW H := .agg [.lit (.int .u32 a), .agg [.lit (.int .u8 m0), .lit (.int .u8 m1), .lit (.int .u8 m2), .lit (.int .u8 m3), .lit (.int .u8 m4), .lit (.int .u8 m5)], .lit (.int .u8 st), .lit (.int .i64 un), .lit (.int .u8 sp), .lit (.string T.data.toList)]
/-- Their bounds. -/
structure Wok (a m0 m1 m2 m3 m4 m5 st un sp : Int) (T : ByteArray) : Prop where
  a0 : 0 ≤ a
  a1 : a < 4294967296
  six : Mc.Six m0 m1 m2 m3 m4 m5
  s0 : 0 ≤ st
  s1 : st < 256
  u0 : -9223372036854775808 ≤ un
  u1 : un ≤ 9223372036854775807
  p0 : 0 ≤ sp
  p1 : sp < 256
  t : T.size ≤ maxLen

section
variable {H : Type} {enc : TypeId × Value → H} {w : World} {base : Nat} {spare : Nat → Bool} {held : Bool}
set_option maxRecDepth 100000 in
theorem open_words {r : Reach} {q : Nat} {v : Value} {d : DataW H} {p : List MemPlace} (hv : Value.okWide Tryz.prog w r q 26 v) (h : DataW.Trod enc Tryz.prog w base spare held 26 v d p) :
    ∃ (a m0 m1 m2 m3 m4 m5 st un sp : Int) (T : ByteArray), v = wv a m0 m1 m2 m3 m4 m5 st un sp T ∧ d = wd a m0 m1 m2 m3 m4 m5 st un sp T ∧ p = [] ∧ Wok a m0 m1 m2 m3 m4 m5 st un sp T := by
  have hv' : ∃ cs, v = .agg cs ∧ cs.size = Tryz.prog.cellsOf 26 := by
    simp only [Value.okWide, Tryz.underlying26] at hv
    obtain ⟨cs, h1, h2, _⟩ := hv
    exact ⟨cs, h1, h2⟩
  obtain ⟨cs, rfl, hsz⟩ := hv'
  obtain ⟨c0, c1, c2, c3, c4, c5, c6, c7, c8, c9, c10, rfl⟩ := array11 (hsz.trans cellsW)
  obtain ⟨fuel, hf⟩ := h
  obtain ⟨ys, n, _, ex, _, hl, hel⟩ := DataW.trod_struct Tryz.underlying26 hf
  have hl : ys.length = 6 := hl
  obtain ⟨y0, y1, y2, y3, y4, y5, rfl⟩ := Mc.list6 hl
  have e0 : DataW.trod enc Tryz.prog w base spare held n 22 (((Value.agg #[c0, c1, c2, c3, c4, c5, c6, c7, c8, c9, c10]).cells.toList.drop 0).take (Tryz.prog.cellsOf 22)) = some y0 := hel 0 _ rfl
  have e1 : DataW.trod enc Tryz.prog w base spare held n 24 (((Value.agg #[c0, c1, c2, c3, c4, c5, c6, c7, c8, c9, c10]).cells.toList.drop 1).take (Tryz.prog.cellsOf 24)) = some y1 := hel 1 _ rfl
  have e2 : DataW.trod enc Tryz.prog w base spare held n 5 (((Value.agg #[c0, c1, c2, c3, c4, c5, c6, c7, c8, c9, c10]).cells.toList.drop 7).take (Tryz.prog.cellsOf 5)) = some y2 := hel 2 _ rfl
  have e3 : DataW.trod enc Tryz.prog w base spare held n 3 (((Value.agg #[c0, c1, c2, c3, c4, c5, c6, c7, c8, c9, c10]).cells.toList.drop 8).take (Tryz.prog.cellsOf 3)) = some y3 := hel 3 _ rfl
  have e4 : DataW.trod enc Tryz.prog w base spare held n 5 (((Value.agg #[c0, c1, c2, c3, c4, c5, c6, c7, c8, c9, c10]).cells.toList.drop 9).take (Tryz.prog.cellsOf 5)) = some y4 := hel 4 _ rfl
  have e5 : DataW.trod enc Tryz.prog w base spare held n 9 (((Value.agg #[c0, c1, c2, c3, c4, c5, c6, c7, c8, c9, c10]).cells.toList.drop 10).take (Tryz.prog.cellsOf 9)) = some y5 := hel 5 _ rfl
  simp only [cellsU, cellsI, cellsS, Mc.cells5, Mc.cells23, Value.cells, List.drop_zero, List.drop_succ_cons, List.take_succ_cons, List.take_zero] at e0 e1 e2 e3 e4 e5
  obtain ⟨a, q0, rfl, w0⟩ := DataW.trod_int Tryz.underlying22 e0
  obtain ⟨st, q2, rfl, w2⟩ := DataW.trod_int Tryz.underlying5 e2
  obtain ⟨un, q3, rfl, w3⟩ := DataW.trod_int Tryz.underlying3 e3
  obtain ⟨sp, q4, rfl, w4⟩ := DataW.trod_int Tryz.underlying5 e4
  obtain ⟨T, q5, rfl, w5⟩ := DataW.trod_string Tryz.underlying9 e5
  obtain ⟨xs, m, _, ey, _, hxl, hxe⟩ := DataW.trod_array Tryz.underlying24 e1
  obtain ⟨z0, z1, z2, z3, z4, z5, rfl⟩ := Mc.list6 hxl
  have g0 := hxe 0 (by omega)
  have g1 := hxe 1 (by omega)
  have g2 := hxe 2 (by omega)
  have g3 := hxe 3 (by omega)
  have g4 := hxe 4 (by omega)
  have g5 := hxe 5 (by omega)
  simp only [Mc.cells5, Value.cells] at g0 g1 g2 g3 g4 g5
  obtain ⟨b0, j0, rfl, x0⟩ := DataW.trod_int Tryz.underlying5 (show DataW.trod enc Tryz.prog w base spare held m 5 [c1] = some z0 from g0)
  obtain ⟨b1, j1, rfl, x1⟩ := DataW.trod_int Tryz.underlying5 (show DataW.trod enc Tryz.prog w base spare held m 5 [c2] = some z1 from g1)
  obtain ⟨b2, j2, rfl, x2⟩ := DataW.trod_int Tryz.underlying5 (show DataW.trod enc Tryz.prog w base spare held m 5 [c3] = some z2 from g2)
  obtain ⟨b3, j3, rfl, x3⟩ := DataW.trod_int Tryz.underlying5 (show DataW.trod enc Tryz.prog w base spare held m 5 [c4] = some z3 from g3)
  obtain ⟨b4, j4, rfl, x4⟩ := DataW.trod_int Tryz.underlying5 (show DataW.trod enc Tryz.prog w base spare held m 5 [c5] = some z4 from g4)
  obtain ⟨b5, j5, rfl, x5⟩ := DataW.trod_int Tryz.underlying5 (show DataW.trod enc Tryz.prog w base spare held m 5 [c6] = some z5 from g5)
  simp only [List.cons.injEq, and_true] at q0 q2 q3 q4 q5 j0 j1 j2 j3 j4 j5
  subst q0 q2 q3 q4 q5 j0 j1 j2 j3 j4 j5
  subst ey
  simp only [Prod.mk.injEq] at ex
  have k0 := bounds_u32 w0
  have k2 := bounds_u8 w2
  have k3 := bounds_i64 w3
  have k4 := bounds_u8 w4
  have l0 := bounds_u8 x0
  have l1 := bounds_u8 x1
  have l2 := bounds_u8 x2
  have l3 := bounds_u8 x3
  have l4 := bounds_u8 x4
  have l5 := bounds_u8 x5
  exact ⟨a, b0, b1, b2, b3, b4, b5, st, un, sp, T, rfl, ex.1, ex.2, ⟨k0.1, by omega, ⟨l0.1, by omega, l1.1, by omega, l2.1, by omega, l3.1, by omega, l4.1, by omega, l5.1, by omega⟩, k2.1, by omega, by omega, by omega, k4.1, by omega, w5⟩⟩

theorem wf_u32' {n : Int} (h0 : 0 ≤ n) (h1 : n < 4294967296) : (Lit.int .u32 n).wf = true := by
  simp [Lit.wf, IntKind.min, IntKind.max, IntKind.signed, IntKind.bits]; omega
theorem wf_i64' {n : Int} (h0 : -9223372036854775808 ≤ n) (h1 : n ≤ 9223372036854775807) : (Lit.int .i64 n).wf = true := by
  simp [Lit.wf, IntKind.min, IntKind.max, IntKind.signed, IntKind.bits]; omega
set_option maxRecDepth 100000 in
theorem shut_words {a m0 m1 m2 m3 m4 m5 st un sp : Int} {T : ByteArray} (h : Wok a m0 m1 m2 m3 m4 m5 st un sp T) :
    DataW.Trod enc Tryz.prog w base spare held 26 (wv a m0 m1 m2 m3 m4 m5 st un sp T) (wd a m0 m1 m2 m3 m4 m5 st un sp T) [] := by
  refine ⟨3, ?_⟩
  have hi : ∀ (k : Nat) (n : Int), 0 ≤ n → n < 256 → DataW.trod enc Tryz.prog w base spare held (k + 1) 5 [.int .u8 n] = some (.lit (.int .u8 n), []) := fun k n a b => by
    simp [DataW.trod, Tryz.underlying5, Mc.wf_byte a b]
  have hu : DataW.trod enc Tryz.prog w base spare held 2 22 [.int .u32 a] = some (.lit (.int .u32 a), []) := by
    simp [DataW.trod, Tryz.underlying22, wf_u32' h.a0 h.a1]
  have hn : DataW.trod enc Tryz.prog w base spare held 2 3 [.int .i64 un] = some (.lit (.int .i64 un), []) := by
    simp [DataW.trod, Tryz.underlying3, wf_i64' h.u0 h.u1]
  have hs : DataW.trod enc Tryz.prog w base spare held 2 9 [.string T] = some (.lit (.string T.data.toList), []) := by
    simp [DataW.trod, Tryz.underlying9, h.t]
  have hm : DataW.trod enc Tryz.prog w base spare held 2 24 [.int .u8 m0, .int .u8 m1, .int .u8 m2, .int .u8 m3, .int .u8 m4, .int .u8 m5] = some (.agg [.lit (.int .u8 m0), .lit (.int .u8 m1), .lit (.int .u8 m2), .lit (.int .u8 m3), .lit (.int .u8 m4), .lit (.int .u8 m5)], []) := by
    unfold DataW.trod
    simp only [Tryz.underlying24, Mc.cells23, Mc.cells5]
    rw [if_pos (by rfl)]
    simp [List.range, List.range.loop, List.mapM_cons, hi 0 _ h.six.h0 h.six.g0, hi 0 _ h.six.h1 h.six.g1, hi 0 _ h.six.h2 h.six.g2, hi 0 _ h.six.h3 h.six.g3, hi 0 _ h.six.h4 h.six.g4, hi 0 _ h.six.h5 h.six.g5]
  unfold DataW.trod wv wd
  simp only [Tryz.underlying26, cellsW, Value.cells]
  rw [if_pos (by rfl)]
  simp [List.mapM_cons, cellsU, cellsI, cellsS, Mc.cells23, Mc.cells5, hu, hn, hs, hm, hi 1 _ h.s0 h.s1, hi 1 _ h.p0 h.p1]
/-- The text in the words is one that a process can hold. -/
theorem sized_words {ts : List TypeId} {ds : List (DataW H)} (h : (DataW.weightsEach Tryz.prog ts ds).all (· ≤ reachBytes) = true) {j : Nat} {a m0 m1 m2 m3 m4 m5 st un sp : Int} {T : ByteArray} (ht : ts[j]? = some 26) (hd : ds[j]? = some (wd a m0 m1 m2 m3 m4 m5 st un sp T)) : T.size ≤ 140737488351232 := by
  have h1 := List.all_eq_true.1 h _ (DataW.weights_mem_each ht hd T.data.toList.length (by simp [DataW.weights, DataW.weightsEach, wd, Tryz.underlying26]))
  have h2 : T.data.toList.length ≤ reachBytes := by simpa using h1
  rw [← Lib.size_eq] at h2
  exact h2
end
end Go.Proofs.YthpgmlijfcfddaaGreatDoor
