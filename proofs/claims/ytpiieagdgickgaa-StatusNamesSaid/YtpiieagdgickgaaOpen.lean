/-
  What every row of this seat needs; slices of sightings and of numbers for them, a choice, nine bytes and a holder that came in are opened. No condition but the form's own reach.
-/
import Derived.Test.YtpiieagdgickgaaRows
import Derived.Test.YtpiieagdgickgaaAnyWalk
import Derived.ProofKit
import Derived.OpenShut
import Derived.ShutString
import Derived.Deep.Fields
import Derived.ChangeSame
import Derived.ChangeOld
import Derived.SizedLaws
set_option linter.unusedSimpArgs false
set_option linter.unusedVariables false
namespace Go.Proofs.Ytpiieagdgickgaa
open Go.ChangeShapes Go.WideShapes Go.ChangeAt Go.RowKit

theorem own : ownKnob Try.prog.godebug = none := by kernel_rfl
theorem laidOut : laidOutB Try.prog = true := by kernel_rfl
theorem wf_u8 {n : Int} (h : (Lit.int .u8 n).wf = true) : 0 ≤ n ∧ n < 256 := by
  have : 0 ≤ n ∧ n ≤ 255 := by simpa [Lit.wf, IntKind.min, IntKind.max, IntKind.signed, IntKind.bits] using h
  omega
theorem wf_i8 {n : Int} (h : (Lit.int .i8 n).wf = true) : -128 ≤ n ∧ n < 128 := by
  have : -128 ≤ n ∧ n ≤ 127 := by simpa [Lit.wf, IntKind.min, IntKind.max, IntKind.signed, IntKind.bits] using h
  omega
theorem wf_u16 {n : Int} (h : (Lit.int .u16 n).wf = true) : 0 ≤ n ∧ n < 65536 := by
  have : 0 ≤ n ∧ n ≤ 65535 := by simpa [Lit.wf, IntKind.min, IntKind.max, IntKind.signed, IntKind.bits] using h
  omega
theorem wf_u32 {n : Int} (h : (Lit.int .u32 n).wf = true) : 0 ≤ n ∧ n < 4294967296 := by
  have : 0 ≤ n ∧ n ≤ 4294967295 := by simpa [Lit.wf, IntKind.min, IntKind.max, IntKind.signed, IntKind.bits] using h
  omega
theorem cells57 : Try.prog.cellsOf 57 = 2 := by kernel_rfl
theorem cells48 : Try.prog.cellsOf 48 = 8 := by kernel_rfl
theorem cells35 : Try.prog.cellsOf 35 = 6 := by kernel_rfl
theorem cells38 : Try.prog.cellsOf 38 = 8 := by kernel_rfl
theorem cells23 : Try.prog.cellsOf 23 = 9 := by kernel_rfl
theorem cells27 : Try.prog.cellsOf 27 = 9 := by kernel_rfl
theorem cells46 : Try.prog.cellsOf 46 = 1 := by kernel_rfl
theorem cells33 : Try.prog.cellsOf 33 = 1 := by kernel_rfl
theorem cells9 : Try.prog.cellsOf 9 = 1 := by kernel_rfl
theorem cells5 : Try.prog.cellsOf 5 = 1 := by kernel_rfl
theorem cells3 : Try.prog.cellsOf 3 = 1 := by kernel_rfl
theorem bytes57 : 1 ≤ Try.prog.bytesOf 57 := of_decide_eq_true (by kernel_rfl)
theorem bytes48 : 1 ≤ Try.prog.bytesOf 48 := of_decide_eq_true (by kernel_rfl)
theorem one_seen {H : Type} {enc : TypeId × Value → H} {W : World} {fuel : Nat} {cs : List Value} {d : DataW H × List MemPlace} (h : DataW.trod enc Try.prog W 0 (fun _ => true) true fuel 57 cs = some d) : ∃ a : Sn, a.ok ∧ cs = nl a := by
  obtain ⟨ys, n, _, _, hl', hy, hf⟩ := DataW.trod_struct Try.underlying57 h
  rw [cells57] at hl'
  match cs, hl' with
  | [v0, v1], _ =>
    have hy : ys.length = 2 := hy
    match ys, hy with
    | [y0, y1], _ =>
      have f0 := hf 0 _ rfl
      have f1 := hf 1 _ rfl
      simp only [cells5, List.drop_zero, List.drop_succ_cons, List.take_succ_cons, List.take_zero, List.getElem?_cons_zero, List.getElem?_cons_succ] at f0 f1
      obtain ⟨n0, e0, _, w0⟩ := DataW.trod_int Try.underlying5 f0
      obtain ⟨n1, e1, _, w1⟩ := DataW.trod_int Try.underlying5 f1
      refine ⟨⟨n0, n1⟩, ⟨wf_u8 w0, wf_u8 w1⟩, ?_⟩
      have e0 := List.head_eq_of_cons_eq e0
      have e1 := List.head_eq_of_cons_eq e1
      rw [e0, e1]
      rfl
theorem one_sight {H : Type} {enc : TypeId × Value → H} {W : World} {fuel : Nat} {cs : List Value} {d : DataW H × List MemPlace} (h : DataW.trod enc Try.prog W 0 (fun _ => true) true fuel 48 cs = some d) : ∃ a : Sg, True ∧ cs = sl a := by
  obtain ⟨ys, n, _, _, hl', hy, hf⟩ := DataW.trod_struct Try.underlying48 h
  rw [cells48] at hl'
  match cs, hl' with
  | [v0, v1, v2, v3, v4, v5, v6, v7], _ =>
    have hy : ys.length = 3 := hy
    match ys, hy with
    | [y0, y1, y2], _ =>
      have f0 := hf 0 _ rfl
      have f1 := hf 1 _ rfl
      have f2 := hf 2 _ rfl
      simp only [cells46, cells35, cells3, List.drop_zero, List.drop_succ_cons, List.take_succ_cons, List.take_zero, List.getElem?_cons_zero, List.getElem?_cons_succ] at f0 f1 f2
      obtain ⟨n0, e0, _, w0⟩ := DataW.trod_int Try.underlying46 f0
      obtain ⟨xs1, m1, _, _, _, hxl1, hxe1⟩ := DataW.trod_array Try.underlying35 f1
      obtain ⟨z10, z11, z12, z13, z14, z15, rfl⟩ : ∃ a b c d e f, xs1 = [a, b, c, d, e, f] := by
        match xs1, hxl1 with
        | [a, b, c, d, e, f], _ => exact ⟨a, b, c, d, e, f, rfl⟩
      have g10 := hxe1 0 (by omega)
      have g11 := hxe1 1 (by omega)
      have g12 := hxe1 2 (by omega)
      have g13 := hxe1 3 (by omega)
      have g14 := hxe1 4 (by omega)
      have g15 := hxe1 5 (by omega)
      simp only [cells5] at g10 g11 g12 g13 g14 g15
      obtain ⟨b10, j10, _, u10⟩ := DataW.trod_int Try.underlying5 (show DataW.trod enc Try.prog W 0 (fun _ => true) true m1 5 [v1] = some z10 from g10)
      obtain ⟨b11, j11, _, u11⟩ := DataW.trod_int Try.underlying5 (show DataW.trod enc Try.prog W 0 (fun _ => true) true m1 5 [v2] = some z11 from g11)
      obtain ⟨b12, j12, _, u12⟩ := DataW.trod_int Try.underlying5 (show DataW.trod enc Try.prog W 0 (fun _ => true) true m1 5 [v3] = some z12 from g12)
      obtain ⟨b13, j13, _, u13⟩ := DataW.trod_int Try.underlying5 (show DataW.trod enc Try.prog W 0 (fun _ => true) true m1 5 [v4] = some z13 from g13)
      obtain ⟨b14, j14, _, u14⟩ := DataW.trod_int Try.underlying5 (show DataW.trod enc Try.prog W 0 (fun _ => true) true m1 5 [v5] = some z14 from g14)
      obtain ⟨b15, j15, _, u15⟩ := DataW.trod_int Try.underlying5 (show DataW.trod enc Try.prog W 0 (fun _ => true) true m1 5 [v6] = some z15 from g15)
      obtain ⟨n2, e2, _, w2⟩ := DataW.trod_int Try.underlying3 f2
      refine ⟨⟨n0, ⟨b10, b11, b12, b13, b14, b15⟩, n2⟩, trivial, ?_⟩
      have e0 := List.head_eq_of_cons_eq e0
      have j10 := List.head_eq_of_cons_eq j10
      have j11 := List.head_eq_of_cons_eq j11
      have j12 := List.head_eq_of_cons_eq j12
      have j13 := List.head_eq_of_cons_eq j13
      have j14 := List.head_eq_of_cons_eq j14
      have j15 := List.head_eq_of_cons_eq j15
      have e2 := List.head_eq_of_cons_eq e2
      rw [e0, j10, j11, j12, j13, j14, j15, e2]
      rfl
def hdl (h : Hd) : List Value := [.int .u32 h.ad, .string h.ow, .int .u8 h.m.b0, .int .u8 h.m.b1, .int .u8 h.m.b2, .int .u8 h.m.b3, .int .u8 h.m.b4, .int .u8 h.m.b5]
theorem one_hd {H : Type} {enc : TypeId × Value → H} {W : World} {fuel : Nat} {cs : List Value} {d : DataW H × List MemPlace} (h : DataW.trod enc Try.prog W 0 (fun _ => true) true fuel 38 cs = some d) : ∃ a : Hd, True ∧ cs = hdl a := by
  obtain ⟨ys, n, _, _, hl', hy, hf⟩ := DataW.trod_struct Try.underlying38 h
  rw [cells38] at hl'
  match cs, hl' with
  | [v0, v1, v2, v3, v4, v5, v6, v7], _ =>
    have hy : ys.length = 3 := hy
    match ys, hy with
    | [y0, y1, y2], _ =>
      have f0 := hf 0 _ rfl
      have f1 := hf 1 _ rfl
      have f2 := hf 2 _ rfl
      simp only [cells33, cells9, cells35, List.drop_zero, List.drop_succ_cons, List.take_succ_cons, List.take_zero, List.getElem?_cons_zero, List.getElem?_cons_succ] at f0 f1 f2
      obtain ⟨n0, e0, _, w0⟩ := DataW.trod_int Try.underlying33 f0
      obtain ⟨n1, e1, _, w1⟩ := DataW.trod_string Try.underlying9 f1
      obtain ⟨xs2, m2, _, _, _, hxl2, hxe2⟩ := DataW.trod_array Try.underlying35 f2
      obtain ⟨z20, z21, z22, z23, z24, z25, rfl⟩ : ∃ a b c d e f, xs2 = [a, b, c, d, e, f] := by
        match xs2, hxl2 with
        | [a, b, c, d, e, f], _ => exact ⟨a, b, c, d, e, f, rfl⟩
      have g20 := hxe2 0 (by omega)
      have g21 := hxe2 1 (by omega)
      have g22 := hxe2 2 (by omega)
      have g23 := hxe2 3 (by omega)
      have g24 := hxe2 4 (by omega)
      have g25 := hxe2 5 (by omega)
      simp only [cells5] at g20 g21 g22 g23 g24 g25
      obtain ⟨b20, j20, _, u20⟩ := DataW.trod_int Try.underlying5 (show DataW.trod enc Try.prog W 0 (fun _ => true) true m2 5 [v2] = some z20 from g20)
      obtain ⟨b21, j21, _, u21⟩ := DataW.trod_int Try.underlying5 (show DataW.trod enc Try.prog W 0 (fun _ => true) true m2 5 [v3] = some z21 from g21)
      obtain ⟨b22, j22, _, u22⟩ := DataW.trod_int Try.underlying5 (show DataW.trod enc Try.prog W 0 (fun _ => true) true m2 5 [v4] = some z22 from g22)
      obtain ⟨b23, j23, _, u23⟩ := DataW.trod_int Try.underlying5 (show DataW.trod enc Try.prog W 0 (fun _ => true) true m2 5 [v5] = some z23 from g23)
      obtain ⟨b24, j24, _, u24⟩ := DataW.trod_int Try.underlying5 (show DataW.trod enc Try.prog W 0 (fun _ => true) true m2 5 [v6] = some z24 from g24)
      obtain ⟨b25, j25, _, u25⟩ := DataW.trod_int Try.underlying5 (show DataW.trod enc Try.prog W 0 (fun _ => true) true m2 5 [v7] = some z25 from g25)
      refine ⟨⟨n0, n1, ⟨b20, b21, b22, b23, b24, b25⟩⟩, trivial, ?_⟩
      have e0 := List.head_eq_of_cons_eq e0
      have e1 := List.head_eq_of_cons_eq e1
      have j20 := List.head_eq_of_cons_eq j20
      have j21 := List.head_eq_of_cons_eq j21
      have j22 := List.head_eq_of_cons_eq j22
      have j23 := List.head_eq_of_cons_eq j23
      have j24 := List.head_eq_of_cons_eq j24
      have j25 := List.head_eq_of_cons_eq j25
      rw [e0, e1, j20, j21, j22, j23, j24, j25]
      rfl
theorem one_hc {H : Type} {enc : TypeId × Value → H} {W : World} {fuel : Nat} {cs : List Value} {d : DataW H × List MemPlace} (h : DataW.trod enc Try.prog W 0 (fun _ => true) true fuel 23 cs = some d) : ∃ a : Hc, a.Ok ∧ cs = hl a := by
  obtain ⟨ys, n, _, _, hl', hy, hf⟩ := DataW.trod_struct Try.underlying23 h
  rw [cells23] at hl'
  match cs, hl' with
  | [v0, v1, v2, v3, v4, v5, v6, v7, v8], _ =>
    have hy : ys.length = 9 := hy
    match ys, hy with
    | [y0, y1, y2, y3, y4, y5, y6, y7, y8], _ =>
      have f0 := hf 0 _ rfl
      have f1 := hf 1 _ rfl
      have f2 := hf 2 _ rfl
      have f3 := hf 3 _ rfl
      have f4 := hf 4 _ rfl
      have f5 := hf 5 _ rfl
      have f6 := hf 6 _ rfl
      have f7 := hf 7 _ rfl
      have f8 := hf 8 _ rfl
      simp only [cells5, List.drop_zero, List.drop_succ_cons, List.take_succ_cons, List.take_zero, List.getElem?_cons_zero, List.getElem?_cons_succ] at f0 f1 f2 f3 f4 f5 f6 f7 f8
      obtain ⟨n0, e0, _, w0⟩ := DataW.trod_int Try.underlying5 f0
      obtain ⟨n1, e1, _, w1⟩ := DataW.trod_int Try.underlying5 f1
      obtain ⟨n2, e2, _, w2⟩ := DataW.trod_int Try.underlying5 f2
      obtain ⟨n3, e3, _, w3⟩ := DataW.trod_int Try.underlying5 f3
      obtain ⟨n4, e4, _, w4⟩ := DataW.trod_int Try.underlying5 f4
      obtain ⟨n5, e5, _, w5⟩ := DataW.trod_int Try.underlying5 f5
      obtain ⟨n6, e6, _, w6⟩ := DataW.trod_int Try.underlying5 f6
      obtain ⟨n7, e7, _, w7⟩ := DataW.trod_int Try.underlying5 f7
      obtain ⟨n8, e8, _, w8⟩ := DataW.trod_int Try.underlying5 f8
      refine ⟨⟨n0, n1, n2, n3, n4, n5, n6, n7, n8⟩, ⟨wf_u8 w0, wf_u8 w1, wf_u8 w2, wf_u8 w3, wf_u8 w4, wf_u8 w5, wf_u8 w6, wf_u8 w7, wf_u8 w8⟩, ?_⟩
      have e0 := List.head_eq_of_cons_eq e0
      have e1 := List.head_eq_of_cons_eq e1
      have e2 := List.head_eq_of_cons_eq e2
      have e3 := List.head_eq_of_cons_eq e3
      have e4 := List.head_eq_of_cons_eq e4
      have e5 := List.head_eq_of_cons_eq e5
      have e6 := List.head_eq_of_cons_eq e6
      have e7 := List.head_eq_of_cons_eq e7
      have e8 := List.head_eq_of_cons_eq e8
      rw [e0, e1, e2, e3, e4, e5, e6, e7, e8]
      rfl
theorem one_cf {H : Type} {enc : TypeId × Value → H} {W : World} {fuel : Nat} {cs : List Value} {d : DataW H × List MemPlace} (h : DataW.trod enc Try.prog W 0 (fun _ => true) true fuel 27 cs = some d) : ∃ a : Cf, True ∧ cs = cfl a := by
  obtain ⟨ys, n, _, _, hl', hy, hf⟩ := DataW.trod_struct Try.underlying27 h
  rw [cells27] at hl'
  match cs, hl' with
  | [v0, v1, v2, v3, v4, v5, v6, v7, v8], _ =>
    have hy : ys.length = 9 := hy
    match ys, hy with
    | [y0, y1, y2, y3, y4, y5, y6, y7, y8], _ =>
      have f0 := hf 0 _ rfl
      have f1 := hf 1 _ rfl
      have f2 := hf 2 _ rfl
      have f3 := hf 3 _ rfl
      have f4 := hf 4 _ rfl
      have f5 := hf 5 _ rfl
      have f6 := hf 6 _ rfl
      have f7 := hf 7 _ rfl
      have f8 := hf 8 _ rfl
      simp only [cells3, List.drop_zero, List.drop_succ_cons, List.take_succ_cons, List.take_zero, List.getElem?_cons_zero, List.getElem?_cons_succ] at f0 f1 f2 f3 f4 f5 f6 f7 f8
      obtain ⟨n0, e0, _, w0⟩ := DataW.trod_int Try.underlying3 f0
      obtain ⟨n1, e1, _, w1⟩ := DataW.trod_int Try.underlying3 f1
      obtain ⟨n2, e2, _, w2⟩ := DataW.trod_int Try.underlying3 f2
      obtain ⟨n3, e3, _, w3⟩ := DataW.trod_int Try.underlying3 f3
      obtain ⟨n4, e4, _, w4⟩ := DataW.trod_int Try.underlying3 f4
      obtain ⟨n5, e5, _, w5⟩ := DataW.trod_int Try.underlying3 f5
      obtain ⟨n6, e6, _, w6⟩ := DataW.trod_int Try.underlying3 f6
      obtain ⟨n7, e7, _, w7⟩ := DataW.trod_int Try.underlying3 f7
      obtain ⟨n8, e8, _, w8⟩ := DataW.trod_int Try.underlying3 f8
      refine ⟨⟨n0, n1, n2, n3, n4, n5, n6, n7, n8⟩, trivial, ?_⟩
      have e0 := List.head_eq_of_cons_eq e0
      have e1 := List.head_eq_of_cons_eq e1
      have e2 := List.head_eq_of_cons_eq e2
      have e3 := List.head_eq_of_cons_eq e3
      have e4 := List.head_eq_of_cons_eq e4
      have e5 := List.head_eq_of_cons_eq e5
      have e6 := List.head_eq_of_cons_eq e6
      have e7 := List.head_eq_of_cons_eq e7
      have e8 := List.head_eq_of_cons_eq e8
      rw [e0, e1, e2, e3, e4, e5, e6, e7, e8]
      rfl
/-- What a slice of structs that came in has. -/
theorem open_row {α : Type} {H : Type} {enc : TypeId × Value → H} {W : World} (S E N : Nat) (ok : α → Prop) (cl : α → List Value) (z0 : α) (hS : Try.prog.underlying S = some (.slice E)) (hN : Try.prog.cellsOf E = N) (hB : 1 ≤ Try.prog.bytesOf E) (hcl : ∀ a, (cl a).length = N)
    (hone : ∀ fuel cs d, DataW.trod enc Try.prog W 0 (fun _ => true) true fuel E cs = some d → ∃ a, ok a ∧ cs = cl a) {a : Option Addr} {len cap : Nat} {d : DataW H} {p : List MemPlace}
    (h : DataW.Trod enc Try.prog W 0 (fun _ => true) true S (.slice a len cap) d p)
    (hs : ∀ elems spare, d = .slice elems spare → (elems.length + spare.length) * Try.prog.bytesOf E ≤ reachBytes) : ∃ xs : List α, len = xs.length ∧ (xs.length ≤ 140737488355328 ∧ ∀ (q : Nat) (x : α), xs[q]? = some x → ok x ∧ ∃ y, a = some y ∧ ∀ j v, (cl x)[j]? = some v → W.cell? (y.add (q * N + j)) = some v) ∧ len ≤ cap := by
  obtain ⟨fuel, hf⟩ := h
  rcases Go.Deep.open_slice hS hf with ⟨hcs, _⟩ | ⟨x, l, c, m, n, D, Pl, hcs, _, hl, _, hm, hx, hi⟩
  · simp [Value.cells] at hcs
    obtain ⟨rfl, rfl, rfl⟩ := hcs
    exact ⟨[], rfl, ⟨by simp, fun q a hq => by simp at hq⟩, Nat.le_refl _⟩
  · simp [Value.cells] at hcs
    obtain ⟨rfl, rfl, rfl⟩ := hcs
    have hm : m = cap := by simpa using hm
    subst hm
    have hd : d = .slice ((List.range len).map D) ((List.range (m - len)).map fun j => D (len + j)) := by injection hx
    have hr := hs _ _ hd
    simp only [List.length_map, List.length_range, reachBytes] at hr
    have hlen : len ≤ 140737488355328 := by
      have h1 : (len + (m - len)) * 1 ≤ (len + (m - len)) * Try.prog.bytesOf E := Nat.mul_le_mul_left _ hB
      omega
    have hex : ∀ i, i < len → ∃ z : α, ok z ∧ ∀ j v, (cl z)[j]? = some v → W.cell? (x.add (i * N + j)) = some v := by
      intro i hil
      obtain ⟨cs, hc, ht⟩ := hi i (by omega)
      rw [hN] at hc
      obtain ⟨z, hz, rfl⟩ := hone _ _ _ ht
      obtain ⟨_, hcl', hat⟩ := World.cells?_some hc
      refine ⟨z, hz, fun j v hv => ?_⟩
      have hj : j < N := by have := (List.getElem?_eq_some_iff.1 hv).1; rwa [hcl] at this
      rw [← Go.Deep.add_add, hat j hj, hv]
    refine ⟨(List.range len).map fun i => if h : i < len then Classical.choose (hex i h) else z0, by simp, ⟨by simpa using hlen, fun q z hq => ?_⟩, hl⟩
    have hql : q < len := by have := (List.getElem?_eq_some_iff.1 hq).1; simpa using this
    have hz : Classical.choose (hex q hql) = z := by simpa [hql] using hq
    have := Classical.choose_spec (hex q hql)
    rw [hz] at this
    exact ⟨this.1, x, rfl, this.2⟩
theorem open_seens {H : Type} {enc : TypeId × Value → H} {W : World} {a : Option Addr} {len cap : Nat} {d : DataW H} {p : List MemPlace}
    (h : DataW.Trod enc Try.prog W 0 (fun _ => true) true 24 (.slice a len cap) d p)
    (hs : ∀ elems spare, d = .slice elems spare → (elems.length + spare.length) * Try.prog.bytesOf 57 ≤ reachBytes) : ∃ xs : List _, len = xs.length ∧ Rw eN W a xs ∧ len ≤ cap ∧ ∀ x ∈ xs, x.ok := by
  obtain ⟨xs, h1, h2, h3⟩ := open_row 24 57 2 (Sn.ok) nl ⟨0, 0⟩ Try.underlying24 cells57 bytes57 (fun _ => rfl) (fun _ _ _ h => one_seen h) h hs
  refine ⟨xs, h1, ⟨h2.1, fun q x hq => (h2.2 q x hq).2⟩, h3, fun x hx => ?_⟩
  obtain ⟨q, hq, rfl⟩ := List.mem_iff_getElem.1 hx
  exact (h2.2 q _ (List.getElem?_eq_getElem hq)).1
theorem open_sights {H : Type} {enc : TypeId × Value → H} {W : World} {a : Option Addr} {len cap : Nat} {d : DataW H} {p : List MemPlace}
    (h : DataW.Trod enc Try.prog W 0 (fun _ => true) true 29 (.slice a len cap) d p)
    (hs : ∀ elems spare, d = .slice elems spare → (elems.length + spare.length) * Try.prog.bytesOf 48 ≤ reachBytes) : ∃ xs : List _, len = xs.length ∧ Rw eS W a xs ∧ len ≤ cap ∧ ∀ x ∈ xs, True := by
  obtain ⟨xs, h1, h2, h3⟩ := open_row 29 48 8 (fun _ => True) sl zs Try.underlying29 cells48 bytes48 (fun _ => rfl) (fun _ _ _ h => one_sight h) h hs
  refine ⟨xs, h1, ⟨h2.1, fun q x hq => (h2.2 q x hq).2⟩, h3, fun x hx => ?_⟩
  obtain ⟨q, hq, rfl⟩ := List.mem_iff_getElem.1 hx
  exact (h2.2 q _ (List.getElem?_eq_getElem hq)).1
theorem open_hc {H : Type} {enc : TypeId × Value → H} {W : World} {r : Reach} {q : Nat} {v : Value} {d : DataW H} {pp : List MemPlace} (hval : Value.okWide Try.prog W r q 23 v)
    (h : DataW.Trod enc Try.prog W 0 (fun _ => true) true 23 v d pp) : ∃ a : Hc, v = hv a ∧ a.Ok := by
  have hv' : ∃ cs, v = .agg cs ∧ cs.size = Try.prog.cellsOf 23 := by
    simp only [Value.okWide, Try.underlying23] at hval
    obtain ⟨cs, h1, h2, _⟩ := hval
    exact ⟨cs, h1, h2⟩
  obtain ⟨⟨cs⟩, rfl, hsz⟩ := hv'
  obtain ⟨fuel, hf⟩ := h
  obtain ⟨a, hk, hs⟩ := one_hc hf
  simp only [Value.cells] at hs
  subst hs
  exact ⟨a, rfl, hk⟩
theorem open_cf {H : Type} {enc : TypeId × Value → H} {W : World} {r : Reach} {q : Nat} {v : Value} {d : DataW H} {pp : List MemPlace} (hval : Value.okWide Try.prog W r q 27 v)
    (h : DataW.Trod enc Try.prog W 0 (fun _ => true) true 27 v d pp) : ∃ a : Cf, v = cfv a ∧ True := by
  have hv' : ∃ cs, v = .agg cs ∧ cs.size = Try.prog.cellsOf 27 := by
    simp only [Value.okWide, Try.underlying27] at hval
    obtain ⟨cs, h1, h2, _⟩ := hval
    exact ⟨cs, h1, h2⟩
  obtain ⟨⟨cs⟩, rfl, hsz⟩ := hv'
  obtain ⟨fuel, hf⟩ := h
  obtain ⟨a, hk, hs⟩ := one_cf hf
  simp only [Value.cells] at hs
  subst hs
  exact ⟨a, rfl, hk⟩
theorem open_hd {H : Type} {enc : TypeId × Value → H} {W : World} {r : Reach} {q : Nat} {v : Value} {d : DataW H} {pp : List MemPlace} (hval : Value.okWide Try.prog W r q 38 v)
    (h : DataW.Trod enc Try.prog W 0 (fun _ => true) true 38 v d pp) : ∃ a : Hd, v = hdv a ∧ True := by
  have hv' : ∃ cs, v = .agg cs ∧ cs.size = Try.prog.cellsOf 38 := by
    simp only [Value.okWide, Try.underlying38] at hval
    obtain ⟨cs, h1, h2, _⟩ := hval
    exact ⟨cs, h1, h2⟩
  obtain ⟨⟨cs⟩, rfl, hsz⟩ := hv'
  obtain ⟨fuel, hf⟩ := h
  obtain ⟨a, hk, hs⟩ := one_hd hf
  simp only [Value.cells] at hs
  subst hs
  exact ⟨a, rfl, hk⟩
end Go.Proofs.Ytpiieagdgickgaa
