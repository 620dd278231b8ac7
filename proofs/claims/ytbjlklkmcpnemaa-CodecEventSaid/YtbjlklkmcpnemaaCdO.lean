/-
  An event among a statement's parameters is opened. No condition but the form's own reach.
-/
import Derived.Test.YtbjlklkmcpnemaaRows
import Derived.Test.YtbjlklkmcpnemaaCdE
import Derived.ProofKit
import Derived.OpenShut
import Derived.ShutString
import Derived.Deep.Fields
import Derived.ChangeSame
import Derived.ChangeOld
import Derived.SizedLaws
set_option linter.unusedSimpArgs false
set_option linter.unusedVariables false
namespace Go.Proofs.Ytbjlklkmcpnemaa
open Go.ChangeShapes Go.WideShapes Go.ChangeAt Go.RowKit

theorem own : ownKnob Try.prog.godebug = none := by kernel_rfl
theorem laidOut : laidOutB Try.prog = true := by kernel_rfl
theorem wf_u8 {n : Int} (h : (Lit.int .u8 n).wf = true) : 0 ≤ n ∧ n < 256 := by
  have : 0 ≤ n ∧ n ≤ 255 := by simpa [Lit.wf, IntKind.min, IntKind.max, IntKind.signed, IntKind.bits] using h
  omega
theorem wf_u32 {n : Int} (h : (Lit.int .u32 n).wf = true) : 0 ≤ n ∧ n < 4294967296 := by
  have : 0 ≤ n ∧ n ≤ 4294967295 := by simpa [Lit.wf, IntKind.min, IntKind.max, IntKind.signed, IntKind.bits] using h
  omega
theorem wf_i64 {n : Int} (h : (Lit.int .i64 n).wf = true) : I64 n := by
  have : -9223372036854775808 ≤ n ∧ n ≤ 9223372036854775807 := by simpa [Lit.wf, IntKind.min, IntKind.max, IntKind.signed, IntKind.bits] using h
  exact this
structure HoD where
  a : Int
  T : ByteArray
  m0 : Int
  m1 : Int
  m2 : Int
  m3 : Int
  m4 : Int
  m5 : Int
def hol (x : HoD) : List Value := [.int .u32 x.a, .string x.T, .int .u8 x.m0, .int .u8 x.m1, .int .u8 x.m2, .int .u8 x.m3, .int .u8 x.m4, .int .u8 x.m5]
structure HoD.Ok (x : HoD) : Prop where
  a : 0 ≤ x.a ∧ x.a < 4294967296
  m : By6 x.m0 x.m1 x.m2 x.m3 x.m4 x.m5
  t : x.T.size ≤ 9223372036854775807
structure SiD where
  f : Int
  m0 : Int
  m1 : Int
  m2 : Int
  m3 : Int
  m4 : Int
  m5 : Int
  t : Int
def sil (x : SiD) : List Value := [.int .i64 x.f, .int .u8 x.m0, .int .u8 x.m1, .int .u8 x.m2, .int .u8 x.m3, .int .u8 x.m4, .int .u8 x.m5, .int .i64 x.t]
structure SiD.Ok (x : SiD) : Prop where
  f : I64 x.f
  m : By6 x.m0 x.m1 x.m2 x.m3 x.m4 x.m5
  t : I64 x.t
def blkl (a : Int × Int) : List Value := [.int .u32 a.1, .int .i64 a.2]
theorem cells24 : Try.prog.cellsOf 24 = 1 := by kernel_rfl
theorem cells9 : Try.prog.cellsOf 9 = 1 := by kernel_rfl
theorem cells26 : Try.prog.cellsOf 26 = 6 := by kernel_rfl
theorem cells28 : Try.prog.cellsOf 28 = 8 := by kernel_rfl
theorem cells30 : Try.prog.cellsOf 30 = 2 := by kernel_rfl
theorem cells31 : Try.prog.cellsOf 31 = 1 := by kernel_rfl
theorem cells33 : Try.prog.cellsOf 33 = 8 := by kernel_rfl
theorem cells22 : Try.prog.cellsOf 22 = 1 := by kernel_rfl
theorem cells35 : Try.prog.cellsOf 35 = 19 := by kernel_rfl
theorem cells5 : Try.prog.cellsOf 5 = 1 := by kernel_rfl
theorem cells3 : Try.prog.cellsOf 3 = 1 := by kernel_rfl
set_option maxRecDepth 100000 in
theorem one_holder {H : Type} {enc : TypeId × Value → H} {W : World} {fuel : Nat} {cs : List Value} {d : DataW H × List MemPlace} (h : DataW.trod enc Try.prog W 0 (fun _ => true) true fuel 28 cs = some d) : ∃ a : HoD, a.Ok ∧ cs = hol a := by
  obtain ⟨ys, n, _, _, hl', hy, hf⟩ := DataW.trod_struct Try.underlying28 h
  rw [cells28] at hl'
  match cs, hl' with
  | [v0, v1, v2, v3, v4, v5, v6, v7], _ =>
    have hy : ys.length = 3 := hy
    match ys, hy with
    | [y0, y1, y2], _ =>
      have f0 := hf 0 _ rfl
      have f1 := hf 1 _ rfl
      have f2 := hf 2 _ rfl
      simp only [cells24, cells9, cells26, List.drop_zero, List.drop_succ_cons, List.take_succ_cons, List.take_zero, List.getElem?_cons_zero, List.getElem?_cons_succ] at f0 f1 f2
      obtain ⟨n0, e0, _, w0⟩ := DataW.trod_int Try.underlying24 f0
      obtain ⟨n1, e1, _, w1⟩ := DataW.trod_string Try.underlying9 f1
      obtain ⟨xs2, m2, _, _, _, hxl2, hxe2⟩ := DataW.trod_array Try.underlying26 f2
      obtain ⟨z20, z21, z22, z23, z24, z25, rfl⟩ : ∃ a b c d e f, xs2 = [a, b, c, d, e, f] := by
        match xs2, hxl2 with
        | [a, b, c, d, e, f], _ => exact ⟨a, b, c, d, e, f, rfl⟩
      have g20 := hxe2 0 (by omega)
      have g21 := hxe2 1 (by omega)
      have g22 := hxe2 2 (by omega)
      have g23 := hxe2 3 (by omega)
      have g24 := hxe2 4 (by omega)
      have g25 := hxe2 5 (by omega)
      simp only [cells5] at g20 g21 g22 g23 g24 g25
      obtain ⟨b20, j20, _, u20⟩ := DataW.trod_int Try.underlying5 (show DataW.trod enc Try.prog W 0 (fun _ => true) true m2 5 [v2] = some z20 from g20)
      obtain ⟨b21, j21, _, u21⟩ := DataW.trod_int Try.underlying5 (show DataW.trod enc Try.prog W 0 (fun _ => true) true m2 5 [v3] = some z21 from g21)
      obtain ⟨b22, j22, _, u22⟩ := DataW.trod_int Try.underlying5 (show DataW.trod enc Try.prog W 0 (fun _ => true) true m2 5 [v4] = some z22 from g22)
      obtain ⟨b23, j23, _, u23⟩ := DataW.trod_int Try.underlying5 (show DataW.trod enc Try.prog W 0 (fun _ => true) true m2 5 [v5] = some z23 from g23)
      obtain ⟨b24, j24, _, u24⟩ := DataW.trod_int Try.underlying5 (show DataW.trod enc Try.prog W 0 (fun _ => true) true m2 5 [v6] = some z24 from g24)
      obtain ⟨b25, j25, _, u25⟩ := DataW.trod_int Try.underlying5 (show DataW.trod enc Try.prog W 0 (fun _ => true) true m2 5 [v7] = some z25 from g25)
      refine ⟨⟨n0, n1, b20, b21, b22, b23, b24, b25⟩, ⟨wf_u32 w0, ⟨wf_u8 u20, wf_u8 u21, wf_u8 u22, wf_u8 u23, wf_u8 u24, wf_u8 u25⟩, by unfold maxLen at w1; exact w1⟩, ?_⟩
      have e0 := List.head_eq_of_cons_eq e0
      have e1 := List.head_eq_of_cons_eq e1
      have j20 := List.head_eq_of_cons_eq j20
      have j21 := List.head_eq_of_cons_eq j21
      have j22 := List.head_eq_of_cons_eq j22
      have j23 := List.head_eq_of_cons_eq j23
      have j24 := List.head_eq_of_cons_eq j24
      have j25 := List.head_eq_of_cons_eq j25
      rw [e0, e1, j20, j21, j22, j23, j24, j25]
      rfl
set_option maxRecDepth 100000 in
theorem one_block {H : Type} {enc : TypeId × Value → H} {W : World} {fuel : Nat} {cs : List Value} {d : DataW H × List MemPlace} (h : DataW.trod enc Try.prog W 0 (fun _ => true) true fuel 30 cs = some d) : ∃ a : Int × Int, ((0 ≤ a.1 ∧ a.1 < 4294967296) ∧ I64 a.2) ∧ cs = blkl a := by
  obtain ⟨ys, n, _, _, hl', hy, hf⟩ := DataW.trod_struct Try.underlying30 h
  rw [cells30] at hl'
  match cs, hl' with
  | [v0, v1], _ =>
    have hy : ys.length = 2 := hy
    match ys, hy with
    | [y0, y1], _ =>
      have f0 := hf 0 _ rfl
      have f1 := hf 1 _ rfl
      simp only [cells24, cells3, List.drop_zero, List.drop_succ_cons, List.take_succ_cons, List.take_zero, List.getElem?_cons_zero, List.getElem?_cons_succ] at f0 f1
      obtain ⟨n0, e0, _, w0⟩ := DataW.trod_int Try.underlying24 f0
      obtain ⟨n1, e1, _, w1⟩ := DataW.trod_int Try.underlying3 f1
      refine ⟨(n0, n1), ⟨wf_u32 w0, wf_i64 w1⟩, ?_⟩
      have e0 := List.head_eq_of_cons_eq e0
      have e1 := List.head_eq_of_cons_eq e1
      rw [e0, e1]
      rfl
set_option maxRecDepth 100000 in
theorem one_sight {H : Type} {enc : TypeId × Value → H} {W : World} {fuel : Nat} {cs : List Value} {d : DataW H × List MemPlace} (h : DataW.trod enc Try.prog W 0 (fun _ => true) true fuel 33 cs = some d) : ∃ a : SiD, a.Ok ∧ cs = sil a := by
  obtain ⟨ys, n, _, _, hl', hy, hf⟩ := DataW.trod_struct Try.underlying33 h
  rw [cells33] at hl'
  match cs, hl' with
  | [v0, v1, v2, v3, v4, v5, v6, v7], _ =>
    have hy : ys.length = 3 := hy
    match ys, hy with
    | [y0, y1, y2], _ =>
      have f0 := hf 0 _ rfl
      have f1 := hf 1 _ rfl
      have f2 := hf 2 _ rfl
      simp only [cells31, cells26, cells3, List.drop_zero, List.drop_succ_cons, List.take_succ_cons, List.take_zero, List.getElem?_cons_zero, List.getElem?_cons_succ] at f0 f1 f2
      obtain ⟨n0, e0, _, w0⟩ := DataW.trod_int Try.underlying31 f0
      obtain ⟨xs1, m1, _, _, _, hxl1, hxe1⟩ := DataW.trod_array Try.underlying26 f1
      obtain ⟨z10, z11, z12, z13, z14, z15, rfl⟩ : ∃ a b c d e f, xs1 = [a, b, c, d, e, f] := by
        match xs1, hxl1 with
        | [a, b, c, d, e, f], _ => exact ⟨a, b, c, d, e, f, rfl⟩
      have g10 := hxe1 0 (by omega)
      have g11 := hxe1 1 (by omega)
      have g12 := hxe1 2 (by omega)
      have g13 := hxe1 3 (by omega)
      have g14 := hxe1 4 (by omega)
      have g15 := hxe1 5 (by omega)
      simp only [cells5] at g10 g11 g12 g13 g14 g15
      obtain ⟨b10, j10, _, u10⟩ := DataW.trod_int Try.underlying5 (show DataW.trod enc Try.prog W 0 (fun _ => true) true m1 5 [v1] = some z10 from g10)
      obtain ⟨b11, j11, _, u11⟩ := DataW.trod_int Try.underlying5 (show DataW.trod enc Try.prog W 0 (fun _ => true) true m1 5 [v2] = some z11 from g11)
      obtain ⟨b12, j12, _, u12⟩ := DataW.trod_int Try.underlying5 (show DataW.trod enc Try.prog W 0 (fun _ => true) true m1 5 [v3] = some z12 from g12)
      obtain ⟨b13, j13, _, u13⟩ := DataW.trod_int Try.underlying5 (show DataW.trod enc Try.prog W 0 (fun _ => true) true m1 5 [v4] = some z13 from g13)
      obtain ⟨b14, j14, _, u14⟩ := DataW.trod_int Try.underlying5 (show DataW.trod enc Try.prog W 0 (fun _ => true) true m1 5 [v5] = some z14 from g14)
      obtain ⟨b15, j15, _, u15⟩ := DataW.trod_int Try.underlying5 (show DataW.trod enc Try.prog W 0 (fun _ => true) true m1 5 [v6] = some z15 from g15)
      obtain ⟨n2, e2, _, w2⟩ := DataW.trod_int Try.underlying3 f2
      refine ⟨⟨n0, b10, b11, b12, b13, b14, b15, n2⟩, ⟨wf_i64 w0, ⟨wf_u8 u10, wf_u8 u11, wf_u8 u12, wf_u8 u13, wf_u8 u14, wf_u8 u15⟩, wf_i64 w2⟩, ?_⟩
      have e0 := List.head_eq_of_cons_eq e0
      have j10 := List.head_eq_of_cons_eq j10
      have j11 := List.head_eq_of_cons_eq j11
      have j12 := List.head_eq_of_cons_eq j12
      have j13 := List.head_eq_of_cons_eq j13
      have j14 := List.head_eq_of_cons_eq j14
      have j15 := List.head_eq_of_cons_eq j15
      have e2 := List.head_eq_of_cons_eq e2
      rw [e0, j10, j11, j12, j13, j14, j15, e2]
      rfl
set_option maxRecDepth 100000 in
theorem one_event {H : Type} {enc : TypeId × Value → H} {W : World} {fuel : Nat} {cs : List Value} {d : DataW H × List MemPlace} (h : DataW.trod enc Try.prog W 0 (fun _ => true) true fuel 35 cs = some d) : ∃ a : Ev, (a.Ok ∧ a.T.size ≤ 9223372036854775807) ∧ cs = evl a := by
  obtain ⟨ys, n, _, _, hl', hy, hf⟩ := DataW.trod_struct Try.underlying35 h
  rw [cells35] at hl'
  match cs, hl' with
  | [v0, v1, v2, v3, v4, v5, v6, v7, v8, v9, v10, v11, v12, v13, v14, v15, v16, v17, v18], _ =>
    have hy : ys.length = 4 := hy
    match ys, hy with
    | [y0, y1, y2, y3], _ =>
      have f0 := hf 0 _ rfl
      have f1 := hf 1 _ rfl
      have f2 := hf 2 _ rfl
      have f3 := hf 3 _ rfl
      simp only [cells22, cells28, cells30, cells33, List.drop_zero, List.drop_succ_cons, List.take_succ_cons, List.take_zero, List.getElem?_cons_zero, List.getElem?_cons_succ] at f0 f1 f2 f3
      obtain ⟨n0, e0, _, w0⟩ := DataW.trod_int Try.underlying22 f0
      obtain rfl := List.head_eq_of_cons_eq e0
      obtain ⟨a1, o1, e1⟩ := one_holder f1
      obtain ⟨a2, o2, e2⟩ := one_block f2
      obtain ⟨a3, o3, e3⟩ := one_sight f3
      refine ⟨⟨n0, a1.a, a1.T, a1.m0, a1.m1, a1.m2, a1.m3, a1.m4, a1.m5, a2.1, a2.2, a3.f, a3.m0, a3.m1, a3.m2, a3.m3, a3.m4, a3.m5, a3.t⟩, ⟨⟨wf_i64 w0, o1.a.1, o1.a.2, o1.m, o2.1.1, o2.1.2, o2.2, o3.f, o3.m, o3.t⟩, o1.t⟩, ?_⟩
      simp only [hol, List.cons.injEq, and_true] at e1
      obtain ⟨rfl, rfl, rfl, rfl, rfl, rfl, rfl, rfl⟩ := e1
      simp only [blkl, List.cons.injEq, and_true] at e2
      obtain ⟨rfl, rfl⟩ := e2
      simp only [sil, List.cons.injEq, and_true] at e3
      obtain ⟨rfl, rfl, rfl, rfl, rfl, rfl, rfl, rfl⟩ := e3
      rfl
set_option maxRecDepth 100000 in
theorem open_event {H : Type} {enc : TypeId × Value → H} {W : World} {r : Reach} {q : Nat} {v : Value} {d : DataW H} {pp : List MemPlace} (hval : Value.okWide Try.prog W r q 35 v)
    (h : DataW.Trod enc Try.prog W 0 (fun _ => true) true 35 v d pp) : ∃ a : Ev, v = evv a ∧ (a.Ok ∧ a.T.size ≤ 9223372036854775807) := by
  have hv' : ∃ cs, v = .agg cs ∧ cs.size = Try.prog.cellsOf 35 := by
    simp only [Value.okWide, Try.underlying35] at hval
    obtain ⟨cs, h1, h2, _⟩ := hval
    exact ⟨cs, h1, h2⟩
  obtain ⟨⟨cs⟩, rfl, hsz⟩ := hv'
  obtain ⟨fuel, hf⟩ := h
  obtain ⟨a, hk, hs⟩ := one_event hf
  simp only [Value.cells] at hs
  subst hs
  exact ⟨a, rfl, hk⟩
end Go.Proofs.Ytbjlklkmcpnemaa
