/-
  What every row of this seat needs; slices of cases and of deeds, nine bytes and a case that came in are opened. No condition but the form's own reach.
-/
import Derived.Test.YtmaaniokfpkbjaaRows
import Derived.Test.YtmaaniokfpkbjaaSom
import Derived.ProofKit
import Derived.OpenShut
import Derived.ShutString
import Derived.Deep.Fields
import Derived.ChangeSame
import Derived.ChangeOld
import Derived.SizedLaws
set_option linter.unusedSimpArgs false
set_option linter.unusedVariables false
namespace Go.Proofs.Ytmaaniokfpkbjaa
open Go.ChangeShapes Go.WideShapes Go.ChangeAt Go.RowKit

theorem own : ownKnob Try.prog.godebug = none := by kernel_rfl
theorem laidOut : laidOutB Try.prog = true := by kernel_rfl
theorem wf_u8 {n : Int} (h : (Lit.int .u8 n).wf = true) : 0 ≤ n ∧ n < 256 := by
  have : 0 ≤ n ∧ n ≤ 255 := by simpa [Lit.wf, IntKind.min, IntKind.max, IntKind.signed, IntKind.bits] using h
  omega
theorem wf_i8 {n : Int} (h : (Lit.int .i8 n).wf = true) : -128 ≤ n ∧ n < 128 := by
  have : -128 ≤ n ∧ n ≤ 127 := by simpa [Lit.wf, IntKind.min, IntKind.max, IntKind.signed, IntKind.bits] using h
  omega
theorem wf_u16 {n : Int} (h : (Lit.int .u16 n).wf = true) : 0 ≤ n ∧ n < 65536 := by
  have : 0 ≤ n ∧ n ≤ 65535 := by simpa [Lit.wf, IntKind.min, IntKind.max, IntKind.signed, IntKind.bits] using h
  omega
theorem wf_u32 {n : Int} (h : (Lit.int .u32 n).wf = true) : 0 ≤ n ∧ n < 4294967296 := by
  have : 0 ≤ n ∧ n ≤ 4294967295 := by simpa [Lit.wf, IntKind.min, IntKind.max, IntKind.signed, IntKind.bits] using h
  omega
theorem cells37 : Try.prog.cellsOf 37 = 4 := by kernel_rfl
theorem cells31 : Try.prog.cellsOf 31 = 3 := by kernel_rfl
theorem cells23 : Try.prog.cellsOf 23 = 9 := by kernel_rfl
theorem cells34 : Try.prog.cellsOf 34 = 1 := by kernel_rfl
theorem cells35 : Try.prog.cellsOf 35 = 1 := by kernel_rfl
theorem cells5 : Try.prog.cellsOf 5 = 1 := by kernel_rfl
theorem cells3 : Try.prog.cellsOf 3 = 1 := by kernel_rfl
theorem bytes37 : 1 ≤ Try.prog.bytesOf 37 := of_decide_eq_true (by kernel_rfl)
theorem bytes31 : 1 ≤ Try.prog.bytesOf 31 := of_decide_eq_true (by kernel_rfl)
theorem one_act {H : Type} {enc : TypeId × Value → H} {W : World} {fuel : Nat} {cs : List Value} {d : DataW H × List MemPlace} (h : DataW.trod enc Try.prog W 0 (fun _ => true) true fuel 31 cs = some d) : ∃ a : Ac, a.Ok ∧ cs = acl a := by
  obtain ⟨ys, n, _, _, hl', hy, hf⟩ := DataW.trod_struct Try.underlying31 h
  rw [cells31] at hl'
  match cs, hl' with
  | [v0, v1, v2], _ =>
    have hy : ys.length = 3 := hy
    match ys, hy with
    | [y0, y1, y2], _ =>
      have f0 := hf 0 _ rfl
      have f1 := hf 1 _ rfl
      have f2 := hf 2 _ rfl
      simp only [cells5, List.drop_zero, List.drop_succ_cons, List.take_succ_cons, List.take_zero, List.getElem?_cons_zero, List.getElem?_cons_succ] at f0 f1 f2
      obtain ⟨n0, e0, _, w0⟩ := DataW.trod_int Try.underlying5 f0
      obtain ⟨n1, e1, _, w1⟩ := DataW.trod_int Try.underlying5 f1
      obtain ⟨n2, e2, _, w2⟩ := DataW.trod_int Try.underlying5 f2
      refine ⟨⟨n0, n1, n2⟩, ⟨wf_u8 w0, wf_u8 w1, wf_u8 w2⟩, ?_⟩
      have e0 := List.head_eq_of_cons_eq e0
      have e1 := List.head_eq_of_cons_eq e1
      have e2 := List.head_eq_of_cons_eq e2
      rw [e0, e1, e2]
      rfl
theorem one_case {H : Type} {enc : TypeId × Value → H} {W : World} {fuel : Nat} {cs : List Value} {d : DataW H × List MemPlace} (h : DataW.trod enc Try.prog W 0 (fun _ => true) true fuel 37 cs = some d) : ∃ a : Ca, (0 ≤ a.a ∧ a.a < 4294967296) ∧ cs = cal a := by
  obtain ⟨ys, n, _, _, hl', hy, hf⟩ := DataW.trod_struct Try.underlying37 h
  rw [cells37] at hl'
  match cs, hl' with
  | [v0, v1, v2, v3], _ =>
    have hy : ys.length = 4 := hy
    match ys, hy with
    | [y0, y1, y2, y3], _ =>
      have f0 := hf 0 _ rfl
      have f1 := hf 1 _ rfl
      have f2 := hf 2 _ rfl
      have f3 := hf 3 _ rfl
      simp only [cells34, cells3, cells35, List.drop_zero, List.drop_succ_cons, List.take_succ_cons, List.take_zero, List.getElem?_cons_zero, List.getElem?_cons_succ] at f0 f1 f2 f3
      obtain ⟨n0, e0, _, w0⟩ := DataW.trod_int Try.underlying34 f0
      obtain ⟨n1, e1, _, w1⟩ := DataW.trod_int Try.underlying3 f1
      obtain ⟨n2, e2, _, w2⟩ := DataW.trod_int Try.underlying3 f2
      obtain ⟨n3, e3, _, w3⟩ := DataW.trod_int Try.underlying35 f3
      refine ⟨⟨n0, n1, n2, n3⟩, wf_u32 w0, ?_⟩
      have e0 := List.head_eq_of_cons_eq e0
      have e1 := List.head_eq_of_cons_eq e1
      have e2 := List.head_eq_of_cons_eq e2
      have e3 := List.head_eq_of_cons_eq e3
      rw [e0, e1, e2, e3]
      rfl
theorem one_hc {H : Type} {enc : TypeId × Value → H} {W : World} {fuel : Nat} {cs : List Value} {d : DataW H × List MemPlace} (h : DataW.trod enc Try.prog W 0 (fun _ => true) true fuel 23 cs = some d) : ∃ a : Hc, a.Ok ∧ cs = hl a := by
  obtain ⟨ys, n, _, _, hl', hy, hf⟩ := DataW.trod_struct Try.underlying23 h
  rw [cells23] at hl'
  match cs, hl' with
  | [v0, v1, v2, v3, v4, v5, v6, v7, v8], _ =>
    have hy : ys.length = 9 := hy
    match ys, hy with
    | [y0, y1, y2, y3, y4, y5, y6, y7, y8], _ =>
      have f0 := hf 0 _ rfl
      have f1 := hf 1 _ rfl
      have f2 := hf 2 _ rfl
      have f3 := hf 3 _ rfl
      have f4 := hf 4 _ rfl
      have f5 := hf 5 _ rfl
      have f6 := hf 6 _ rfl
      have f7 := hf 7 _ rfl
      have f8 := hf 8 _ rfl
      simp only [cells5, List.drop_zero, List.drop_succ_cons, List.take_succ_cons, List.take_zero, List.getElem?_cons_zero, List.getElem?_cons_succ] at f0 f1 f2 f3 f4 f5 f6 f7 f8
      obtain ⟨n0, e0, _, w0⟩ := DataW.trod_int Try.underlying5 f0
      obtain ⟨n1, e1, _, w1⟩ := DataW.trod_int Try.underlying5 f1
      obtain ⟨n2, e2, _, w2⟩ := DataW.trod_int Try.underlying5 f2
      obtain ⟨n3, e3, _, w3⟩ := DataW.trod_int Try.underlying5 f3
      obtain ⟨n4, e4, _, w4⟩ := DataW.trod_int Try.underlying5 f4
      obtain ⟨n5, e5, _, w5⟩ := DataW.trod_int Try.underlying5 f5
      obtain ⟨n6, e6, _, w6⟩ := DataW.trod_int Try.underlying5 f6
      obtain ⟨n7, e7, _, w7⟩ := DataW.trod_int Try.underlying5 f7
      obtain ⟨n8, e8, _, w8⟩ := DataW.trod_int Try.underlying5 f8
      refine ⟨⟨n0, n1, n2, n3, n4, n5, n6, n7, n8⟩, ⟨wf_u8 w0, wf_u8 w1, wf_u8 w2, wf_u8 w3, wf_u8 w4, wf_u8 w5, wf_u8 w6, wf_u8 w7, wf_u8 w8⟩, ?_⟩
      have e0 := List.head_eq_of_cons_eq e0
      have e1 := List.head_eq_of_cons_eq e1
      have e2 := List.head_eq_of_cons_eq e2
      have e3 := List.head_eq_of_cons_eq e3
      have e4 := List.head_eq_of_cons_eq e4
      have e5 := List.head_eq_of_cons_eq e5
      have e6 := List.head_eq_of_cons_eq e6
      have e7 := List.head_eq_of_cons_eq e7
      have e8 := List.head_eq_of_cons_eq e8
      rw [e0, e1, e2, e3, e4, e5, e6, e7, e8]
      rfl
/-- What a slice of structs that came in has. -/
theorem open_row {α : Type} {H : Type} {enc : TypeId × Value → H} {W : World} (S E N : Nat) (ok : α → Prop) (cl : α → List Value) (z0 : α) (hS : Try.prog.underlying S = some (.slice E)) (hN : Try.prog.cellsOf E = N) (hB : 1 ≤ Try.prog.bytesOf E) (hcl : ∀ a, (cl a).length = N)
    (hone : ∀ fuel cs d, DataW.trod enc Try.prog W 0 (fun _ => true) true fuel E cs = some d → ∃ a, ok a ∧ cs = cl a) {a : Option Addr} {len cap : Nat} {d : DataW H} {p : List MemPlace}
    (h : DataW.Trod enc Try.prog W 0 (fun _ => true) true S (.slice a len cap) d p)
    (hs : ∀ elems spare, d = .slice elems spare → (elems.length + spare.length) * Try.prog.bytesOf E ≤ reachBytes) : ∃ xs : List α, len = xs.length ∧ (xs.length ≤ 140737488355328 ∧ ∀ (q : Nat) (x : α), xs[q]? = some x → ok x ∧ ∃ y, a = some y ∧ ∀ j v, (cl x)[j]? = some v → W.cell? (y.add (q * N + j)) = some v) ∧ len ≤ cap := by
  obtain ⟨fuel, hf⟩ := h
  rcases Go.Deep.open_slice hS hf with ⟨hcs, _⟩ | ⟨x, l, c, m, n, D, Pl, hcs, _, hl, _, hm, hx, hi⟩
  · simp [Value.cells] at hcs
    obtain ⟨rfl, rfl, rfl⟩ := hcs
    exact ⟨[], rfl, ⟨by simp, fun q a hq => by simp at hq⟩, Nat.le_refl _⟩
  · simp [Value.cells] at hcs
    obtain ⟨rfl, rfl, rfl⟩ := hcs
    have hm : m = cap := by simpa using hm
    subst hm
    have hd : d = .slice ((List.range len).map D) ((List.range (m - len)).map fun j => D (len + j)) := by injection hx
    have hr := hs _ _ hd
    simp only [List.length_map, List.length_range, reachBytes] at hr
    have hlen : len ≤ 140737488355328 := by
      have h1 : (len + (m - len)) * 1 ≤ (len + (m - len)) * Try.prog.bytesOf E := Nat.mul_le_mul_left _ hB
      omega
    have hex : ∀ i, i < len → ∃ z : α, ok z ∧ ∀ j v, (cl z)[j]? = some v → W.cell? (x.add (i * N + j)) = some v := by
      intro i hil
      obtain ⟨cs, hc, ht⟩ := hi i (by omega)
      rw [hN] at hc
      obtain ⟨z, hz, rfl⟩ := hone _ _ _ ht
      obtain ⟨_, hcl', hat⟩ := World.cells?_some hc
      refine ⟨z, hz, fun j v hv => ?_⟩
      have hj : j < N := by have := (List.getElem?_eq_some_iff.1 hv).1; rwa [hcl] at this
      rw [← Go.Deep.add_add, hat j hj, hv]
    refine ⟨(List.range len).map fun i => if h : i < len then Classical.choose (hex i h) else z0, by simp, ⟨by simpa using hlen, fun q z hq => ?_⟩, hl⟩
    have hql : q < len := by have := (List.getElem?_eq_some_iff.1 hq).1; simpa using this
    have hz : Classical.choose (hex q hql) = z := by simpa [hql] using hq
    have := Classical.choose_spec (hex q hql)
    rw [hz] at this
    exact ⟨this.1, x, rfl, this.2⟩
theorem open_cases {H : Type} {enc : TypeId × Value → H} {W : World} {a : Option Addr} {len cap : Nat} {d : DataW H} {p : List MemPlace}
    (h : DataW.Trod enc Try.prog W 0 (fun _ => true) true 29 (.slice a len cap) d p)
    (hs : ∀ elems spare, d = .slice elems spare → (elems.length + spare.length) * Try.prog.bytesOf 37 ≤ reachBytes) : ∃ xs : List _, len = xs.length ∧ Rw eA W a xs ∧ len ≤ cap ∧ ∀ x ∈ xs, (0 ≤ x.a ∧ x.a < 4294967296) := by
  obtain ⟨xs, h1, h2, h3⟩ := open_row 29 37 4 (fun x : Ca => 0 ≤ x.a ∧ x.a < 4294967296) cal zc Try.underlying29 cells37 bytes37 (fun _ => rfl) (fun _ _ _ h => one_case h) h hs
  refine ⟨xs, h1, ⟨h2.1, fun q x hq => (h2.2 q x hq).2⟩, h3, fun x hx => ?_⟩
  obtain ⟨q, hq, rfl⟩ := List.mem_iff_getElem.1 hx
  exact (h2.2 q _ (List.getElem?_eq_getElem hq)).1
theorem open_acts {H : Type} {enc : TypeId × Value → H} {W : World} {a : Option Addr} {len cap : Nat} {d : DataW H} {p : List MemPlace}
    (h : DataW.Trod enc Try.prog W 0 (fun _ => true) true 24 (.slice a len cap) d p)
    (hs : ∀ elems spare, d = .slice elems spare → (elems.length + spare.length) * Try.prog.bytesOf 31 ≤ reachBytes) : ∃ xs : List _, len = xs.length ∧ Rw eC W a xs ∧ len ≤ cap ∧ ∀ x ∈ xs, x.Ok := by
  obtain ⟨xs, h1, h2, h3⟩ := open_row 24 31 3 (Ac.Ok) acl ⟨0, 0, 0⟩ Try.underlying24 cells31 bytes31 (fun _ => rfl) (fun _ _ _ h => one_act h) h hs
  refine ⟨xs, h1, ⟨h2.1, fun q x hq => (h2.2 q x hq).2⟩, h3, fun x hx => ?_⟩
  obtain ⟨q, hq, rfl⟩ := List.mem_iff_getElem.1 hx
  exact (h2.2 q _ (List.getElem?_eq_getElem hq)).1
theorem open_hc {H : Type} {enc : TypeId × Value → H} {W : World} {r : Reach} {q : Nat} {v : Value} {d : DataW H} {pp : List MemPlace} (hval : Value.okWide Try.prog W r q 23 v)
    (h : DataW.Trod enc Try.prog W 0 (fun _ => true) true 23 v d pp) : ∃ a : Hc, v = hv a ∧ a.Ok := by
  have hv' : ∃ cs, v = .agg cs ∧ cs.size = Try.prog.cellsOf 23 := by
    simp only [Value.okWide, Try.underlying23] at hval
    obtain ⟨cs, h1, h2, _⟩ := hval
    exact ⟨cs, h1, h2⟩
  obtain ⟨⟨cs⟩, rfl, hsz⟩ := hv'
  obtain ⟨fuel, hf⟩ := h
  obtain ⟨a, hk, hs⟩ := one_hc hf
  simp only [Value.cells] at hs
  subst hs
  exact ⟨a, rfl, hk⟩
theorem open_case {H : Type} {enc : TypeId × Value → H} {W : World} {r : Reach} {q : Nat} {v : Value} {d : DataW H} {pp : List MemPlace} (hval : Value.okWide Try.prog W r q 37 v)
    (h : DataW.Trod enc Try.prog W 0 (fun _ => true) true 37 v d pp) : ∃ a : Ca, v = cav a ∧ (0 ≤ a.a ∧ a.a < 4294967296) := by
  have hv' : ∃ cs, v = .agg cs ∧ cs.size = Try.prog.cellsOf 37 := by
    simp only [Value.okWide, Try.underlying37] at hval
    obtain ⟨cs, h1, h2, _⟩ := hval
    exact ⟨cs, h1, h2⟩
  obtain ⟨⟨cs⟩, rfl, hsz⟩ := hv'
  obtain ⟨fuel, hf⟩ := h
  obtain ⟨a, hk, hs⟩ := one_case hf
  simp only [Value.cells] at hs
  subst hs
  exact ⟨a, rfl, hk⟩
end Go.Proofs.Ytmaaniokfpkbjaa
