/-
  What every row of this seat needs; slices of deeds, of sightings, of small integers, and of addresses with their sightings, that came in are opened; a deed and a sighting, too. No condition but the form's own reach.
-/
import Derived.Test.YtcnhagcmklgpkaaRows
import Derived.Test.YtcnhagcmklgpkaaAct
import Derived.ProofKit
import Derived.OpenShut
import Derived.ShutString
import Derived.Deep.Fields
import Derived.ChangeSame
import Derived.ChangeOld
import Derived.SizedLaws
set_option linter.unusedSimpArgs false
set_option linter.unusedVariables false
namespace Go.Proofs.Ytcnhagcmklgpkaa
open Go.ChangeShapes Go.WideShapes Go.ChangeAt Go.RowKit

theorem own : ownKnob Try.prog.godebug = none := by kernel_rfl
theorem laidOut : laidOutB Try.prog = true := by kernel_rfl
theorem wf_u8 {n : Int} (h : (Lit.int .u8 n).wf = true) : 0 ≤ n ∧ n < 256 := by
  have : 0 ≤ n ∧ n ≤ 255 := by simpa [Lit.wf, IntKind.min, IntKind.max, IntKind.signed, IntKind.bits] using h
  omega
theorem wf_i8 {n : Int} (h : (Lit.int .i8 n).wf = true) : -128 ≤ n ∧ n < 128 := by
  have : -128 ≤ n ∧ n ≤ 127 := by simpa [Lit.wf, IntKind.min, IntKind.max, IntKind.signed, IntKind.bits] using h
  omega
theorem wf_u32 {n : Int} (h : (Lit.int .u32 n).wf = true) : 0 ≤ n ∧ n < 4294967296 := by
  have : 0 ≤ n ∧ n ≤ 4294967295 := by simpa [Lit.wf, IntKind.min, IntKind.max, IntKind.signed, IntKind.bits] using h
  omega
theorem cells28 : Try.prog.cellsOf 28 = 4 := by kernel_rfl
theorem cells35 : Try.prog.cellsOf 35 = 8 := by kernel_rfl
theorem cells33 : Try.prog.cellsOf 33 = 6 := by kernel_rfl
theorem cells53 : Try.prog.cellsOf 53 = 2 := by kernel_rfl
theorem cells30 : Try.prog.cellsOf 30 = 1 := by kernel_rfl
theorem cells31 : Try.prog.cellsOf 31 = 1 := by kernel_rfl
theorem cells37 : Try.prog.cellsOf 37 = 1 := by kernel_rfl
theorem cells39 : Try.prog.cellsOf 39 = 1 := by kernel_rfl
theorem cells5 : Try.prog.cellsOf 5 = 1 := by kernel_rfl
theorem cells3 : Try.prog.cellsOf 3 = 1 := by kernel_rfl
theorem bytes28 : 1 ≤ Try.prog.bytesOf 28 := of_decide_eq_true (by kernel_rfl)
theorem bytes35 : 1 ≤ Try.prog.bytesOf 35 := of_decide_eq_true (by kernel_rfl)
theorem bytes53 : 1 ≤ Try.prog.bytesOf 53 := of_decide_eq_true (by kernel_rfl)
theorem bytes37 : 1 ≤ Try.prog.bytesOf 37 := of_decide_eq_true (by kernel_rfl)
def ZA : Ac := ⟨0, 0, 0, 0⟩
/-- One deed, off its four cells. -/
theorem one_act {H : Type} {enc : TypeId × Value → H} {W : World} {fuel : Nat} {cs : List Value} {d : DataW H × List MemPlace} (h : DataW.trod enc Try.prog W 0 (fun _ => true) true fuel 28 cs = some d) : ∃ a : Ac, a.ok ∧ cs = ac a := by
  obtain ⟨ys, n, _, _, hl, hy, hf⟩ := DataW.trod_struct Try.underlying28 h
  rw [cells28] at hl
  match cs, hl with
  | [v0, v1, v2, v3], _ =>
    have hy : ys.length = 4 := hy
    match ys, hy with
    | [y0, y1, y2, y3], _ =>
      have f0 := hf 0 _ rfl
      have f1 := hf 1 _ rfl
      have f2 := hf 2 _ rfl
      have f3 := hf 3 _ rfl
      simp only [cells5, List.drop_zero, List.drop_succ_cons, List.take_succ_cons, List.take_zero, List.getElem?_cons_zero, List.getElem?_cons_succ] at f0 f1 f2 f3
      obtain ⟨n0, e0, _, w0⟩ := DataW.trod_int Try.underlying5 f0
      obtain ⟨n1, e1, _, w1⟩ := DataW.trod_int Try.underlying5 f1
      obtain ⟨n2, e2, _, w2⟩ := DataW.trod_int Try.underlying5 f2
      obtain ⟨n3, e3, _, w3⟩ := DataW.trod_int Try.underlying5 f3
      refine ⟨⟨n0, n1, n2, n3⟩, ⟨wf_u8 w0, wf_u8 w1, wf_u8 w2, wf_u8 w3⟩, ?_⟩
      have e0 := List.head_eq_of_cons_eq e0
      have e1 := List.head_eq_of_cons_eq e1
      have e2 := List.head_eq_of_cons_eq e2
      have e3 := List.head_eq_of_cons_eq e3
      rw [e0, e1, e2, e3]
      rfl
/-- One sighting, off its eight cells. -/
theorem one_sight {H : Type} {enc : TypeId × Value → H} {W : World} {fuel : Nat} {cs : List Value} {d : DataW H × List MemPlace} (h : DataW.trod enc Try.prog W 0 (fun _ => true) true fuel 35 cs = some d) : ∃ a : Sg, True ∧ cs = sl a := by
  obtain ⟨ys, n, _, _, hl', hy, hf⟩ := DataW.trod_struct Try.underlying35 h
  rw [cells35] at hl'
  match cs, hl' with
  | [v0, v1, v2, v3, v4, v5, v6, v7], _ =>
    have hy : ys.length = 3 := hy
    match ys, hy with
    | [y0, y1, y2], _ =>
      have f0 := hf 0 _ rfl
      have f1 := hf 1 _ rfl
      have f2 := hf 2 _ rfl
      simp only [cells31, cells33, cells3, List.drop_zero, List.drop_succ_cons, List.take_succ_cons, List.take_zero, List.getElem?_cons_zero, List.getElem?_cons_succ] at f0 f1 f2
      obtain ⟨n0, e0, _, _⟩ := DataW.trod_int Try.underlying31 f0
      obtain ⟨n7, e7, _, _⟩ := DataW.trod_int Try.underlying3 f2
      obtain ⟨xs, m, _, _, _, hxl, hxe⟩ := DataW.trod_array Try.underlying33 f1
      match xs, hxl with
      | [z0, z1, z2, z3, z4, z5], _ =>
        have g0 := hxe 0 (by omega)
        have g1 := hxe 1 (by omega)
        have g2 := hxe 2 (by omega)
        have g3 := hxe 3 (by omega)
        have g4 := hxe 4 (by omega)
        have g5 := hxe 5 (by omega)
        simp only [cells5] at g0 g1 g2 g3 g4 g5
        obtain ⟨b0, j0, _, _⟩ := DataW.trod_int Try.underlying5 (show DataW.trod enc Try.prog W 0 (fun _ => true) true m 5 [v1] = some z0 from g0)
        obtain ⟨b1, j1, _, _⟩ := DataW.trod_int Try.underlying5 (show DataW.trod enc Try.prog W 0 (fun _ => true) true m 5 [v2] = some z1 from g1)
        obtain ⟨b2, j2, _, _⟩ := DataW.trod_int Try.underlying5 (show DataW.trod enc Try.prog W 0 (fun _ => true) true m 5 [v3] = some z2 from g2)
        obtain ⟨b3, j3, _, _⟩ := DataW.trod_int Try.underlying5 (show DataW.trod enc Try.prog W 0 (fun _ => true) true m 5 [v4] = some z3 from g3)
        obtain ⟨b4, j4, _, _⟩ := DataW.trod_int Try.underlying5 (show DataW.trod enc Try.prog W 0 (fun _ => true) true m 5 [v5] = some z4 from g4)
        obtain ⟨b5, j5, _, _⟩ := DataW.trod_int Try.underlying5 (show DataW.trod enc Try.prog W 0 (fun _ => true) true m 5 [v6] = some z5 from g5)
        refine ⟨⟨n0, b0, b1, b2, b3, b4, b5, n7⟩, trivial, ?_⟩
        have e0 := List.head_eq_of_cons_eq e0
        have e7 := List.head_eq_of_cons_eq e7
        have j0 := List.head_eq_of_cons_eq j0
        have j1 := List.head_eq_of_cons_eq j1
        have j2 := List.head_eq_of_cons_eq j2
        have j3 := List.head_eq_of_cons_eq j3
        have j4 := List.head_eq_of_cons_eq j4
        have j5 := List.head_eq_of_cons_eq j5
        rw [e0, e7, j0, j1, j2, j3, j4, j5]
        rfl
/-- A small integer that has a sign, off its cell. -/
theorem one_i8 {H : Type} {enc : TypeId × Value → H} {W : World} {fuel : Nat} {cs : List Value} {d : DataW H × List MemPlace} (h : DataW.trod enc Try.prog W 0 (fun _ => true) true fuel 37 cs = some d) : ∃ a : Int, (-128 ≤ a ∧ a < 128) ∧ cs = [.int .i8 a] := by
  obtain ⟨n0, e0, _, w0⟩ := DataW.trod_int Try.underlying37 h
  exact ⟨n0, wf_i8 w0, e0⟩
/-- What a slice of structs that came in has. -/
theorem open_row {α : Type} {H : Type} {enc : TypeId × Value → H} {W : World} (S E N : Nat) (ok : α → Prop) (cl : α → List Value) (z0 : α) (hS : Try.prog.underlying S = some (.slice E)) (hN : Try.prog.cellsOf E = N) (hB : 1 ≤ Try.prog.bytesOf E) (hcl : ∀ a, (cl a).length = N)
    (hone : ∀ fuel cs d, DataW.trod enc Try.prog W 0 (fun _ => true) true fuel E cs = some d → ∃ a, ok a ∧ cs = cl a) {a : Option Addr} {len cap : Nat} {d : DataW H} {p : List MemPlace}
    (h : DataW.Trod enc Try.prog W 0 (fun _ => true) true S (.slice a len cap) d p)
    (hs : ∀ elems spare, d = .slice elems spare → (elems.length + spare.length) * Try.prog.bytesOf E ≤ reachBytes) : ∃ xs : List α, len = xs.length ∧ (xs.length ≤ 140737488355328 ∧ ∀ (q : Nat) (x : α), xs[q]? = some x → ok x ∧ ∃ y, a = some y ∧ ∀ j v, (cl x)[j]? = some v → W.cell? (y.add (q * N + j)) = some v) ∧ len ≤ cap := by
  obtain ⟨fuel, hf⟩ := h
  rcases Go.Deep.open_slice hS hf with ⟨hcs, _⟩ | ⟨x, l, c, m, n, D, Pl, hcs, _, hl, _, hm, hx, hi⟩
  · simp [Value.cells] at hcs
    obtain ⟨rfl, rfl, rfl⟩ := hcs
    exact ⟨[], rfl, ⟨by simp, fun q a hq => by simp at hq⟩, Nat.le_refl _⟩
  · simp [Value.cells] at hcs
    obtain ⟨rfl, rfl, rfl⟩ := hcs
    have hm : m = cap := by simpa using hm
    subst hm
    have hd : d = .slice ((List.range len).map D) ((List.range (m - len)).map fun j => D (len + j)) := by injection hx
    have hr := hs _ _ hd
    simp only [List.length_map, List.length_range, reachBytes] at hr
    have hlen : len ≤ 140737488355328 := by
      have h1 : (len + (m - len)) * 1 ≤ (len + (m - len)) * Try.prog.bytesOf E := Nat.mul_le_mul_left _ hB
      omega
    have hex : ∀ i, i < len → ∃ z : α, ok z ∧ ∀ j v, (cl z)[j]? = some v → W.cell? (x.add (i * N + j)) = some v := by
      intro i hil
      obtain ⟨cs, hc, ht⟩ := hi i (by omega)
      rw [hN] at hc
      obtain ⟨z, hz, rfl⟩ := hone _ _ _ ht
      obtain ⟨_, hcl', hat⟩ := World.cells?_some hc
      refine ⟨z, hz, fun j v hv => ?_⟩
      have hj : j < N := by have := (List.getElem?_eq_some_iff.1 hv).1; rwa [hcl] at this
      rw [← Go.Deep.add_add, hat j hj, hv]
    refine ⟨(List.range len).map fun i => if h : i < len then Classical.choose (hex i h) else z0, by simp, ⟨by simpa using hlen, fun q z hq => ?_⟩, hl⟩
    have hql : q < len := by have := (List.getElem?_eq_some_iff.1 hq).1; simpa using this
    have hz : Classical.choose (hex q hql) = z := by simpa [hql] using hq
    have := Classical.choose_spec (hex q hql)
    rw [hz] at this
    exact ⟨this.1, x, rfl, this.2⟩
theorem open_acts {H : Type} {enc : TypeId × Value → H} {W : World} {a : Option Addr} {len cap : Nat} {d : DataW H} {p : List MemPlace}
    (h : DataW.Trod enc Try.prog W 0 (fun _ => true) true 22 (.slice a len cap) d p)
    (hs : ∀ elems spare, d = .slice elems spare → (elems.length + spare.length) * Try.prog.bytesOf 28 ≤ reachBytes) : ∃ xs : List Ac, len = xs.length ∧ Ra W a xs ∧ len ≤ cap :=
  open_row 22 28 4 Ac.ok ac ZA Try.underlying22 cells28 bytes28 ac_length (fun _ _ _ h => one_act h) h hs
theorem open_sights {H : Type} {enc : TypeId × Value → H} {W : World} {a : Option Addr} {len cap : Nat} {d : DataW H} {p : List MemPlace}
    (h : DataW.Trod enc Try.prog W 0 (fun _ => true) true 39 (.slice a len cap) d p)
    (hs : ∀ elems spare, d = .slice elems spare → (elems.length + spare.length) * Try.prog.bytesOf 35 ≤ reachBytes) : ∃ xs : List Sg, len = xs.length ∧ Rw eS W a xs ∧ len ≤ cap := by
  obtain ⟨xs, h1, h2, h3⟩ := open_row 39 35 8 (fun _ => True) sl zs Try.underlying39 cells35 bytes35 (fun _ => rfl) (fun _ _ _ h => one_sight h) h hs
  exact ⟨xs, h1, ⟨h2.1, fun q x hq => (h2.2 q x hq).2⟩, h3⟩
/-- The small integers of a slice. -/
def Ri (w : World) (A : Option Addr) (xs : List Int) : Prop :=
  xs.length ≤ 140737488355328 ∧ ∀ (q : Nat) (a : Int), xs[q]? = some a → (-128 ≤ a ∧ a < 128) ∧ ∃ x, A = some x ∧ w.cell? (x.add q) = some (.int .i8 a)
theorem open_i8s {H : Type} {enc : TypeId × Value → H} {W : World} {a : Option Addr} {len cap : Nat} {d : DataW H} {p : List MemPlace}
    (h : DataW.Trod enc Try.prog W 0 (fun _ => true) true 23 (.slice a len cap) d p)
    (hs : ∀ elems spare, d = .slice elems spare → (elems.length + spare.length) * Try.prog.bytesOf 37 ≤ reachBytes) : ∃ xs : List Int, len = xs.length ∧ Ri W a xs ∧ len ≤ cap := by
  obtain ⟨xs, h1, h2, h3⟩ := open_row 23 37 1 (fun a => -128 ≤ a ∧ a < 128) (fun a => [.int .i8 a]) 0 Try.underlying23 cells37 bytes37 (fun _ => rfl) (fun _ _ _ h => one_i8 h) h hs
  refine ⟨xs, h1, ⟨h2.1, fun q x hq => ?_⟩, h3⟩
  obtain ⟨g1, y, g2, g3⟩ := h2.2 q x hq
  refine ⟨g1, y, g2, ?_⟩
  have := g3 0 _ rfl
  rwa [Nat.mul_one, Nat.add_zero] at this
/-- A sighting, and a deed, that came in. -/
theorem open_sight {H : Type} {enc : TypeId × Value → H} {W : World} {r : Reach} {q : Nat} {v : Value} {d : DataW H} {pp : List MemPlace} (hv : Value.okWide Try.prog W r q 35 v)
    (h : DataW.Trod enc Try.prog W 0 (fun _ => true) true 35 v d pp) : ∃ s : Sg, v = sv s := by
  have hv' : ∃ cs, v = .agg cs ∧ cs.size = Try.prog.cellsOf 35 := by
    simp only [Value.okWide, Try.underlying35] at hv
    obtain ⟨cs, h1, h2, _⟩ := hv
    exact ⟨cs, h1, h2⟩
  obtain ⟨⟨cs⟩, rfl, hsz⟩ := hv'
  obtain ⟨fuel, hf⟩ := h
  obtain ⟨s, _, hs⟩ := one_sight hf
  simp only [Value.cells] at hs
  exact ⟨s, by rw [show cs = sl s from by simpa using hs]; rfl⟩
theorem open_act {H : Type} {enc : TypeId × Value → H} {W : World} {r : Reach} {q : Nat} {v : Value} {d : DataW H} {pp : List MemPlace} (hv : Value.okWide Try.prog W r q 28 v)
    (h : DataW.Trod enc Try.prog W 0 (fun _ => true) true 28 v d pp) : ∃ s : Ac, v = av s ∧ s.ok := by
  have hv' : ∃ cs, v = .agg cs ∧ cs.size = Try.prog.cellsOf 28 := by
    simp only [Value.okWide, Try.underlying28] at hv
    obtain ⟨cs, h1, h2, _⟩ := hv
    exact ⟨cs, h1, h2⟩
  obtain ⟨⟨cs⟩, rfl, hsz⟩ := hv'
  obtain ⟨fuel, hf⟩ := h
  obtain ⟨s, hk, hs⟩ := one_act hf
  simp only [Value.cells] at hs
  exact ⟨s, by rw [show cs = ac s from by simpa using hs]; rfl, hk⟩
end Go.Proofs.Ytcnhagcmklgpkaa
