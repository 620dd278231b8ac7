/-
  What every row of this seat needs; slices of deeds, and of holders, and a prefix that came in are opened. No condition but the form's own reach.
-/
import Derived.Test.YtafmcnnbeoffdaaRows
import Derived.Test.YtafmcnnbeoffdaaAct
import Derived.ProofKit
import Derived.OpenShut
import Derived.ShutString
import Derived.Deep.Fields
import Derived.ChangeSame
import Derived.ChangeOld
import Derived.SizedLaws
set_option linter.unusedSimpArgs false
namespace Go.Proofs.Ytafmcnnbeoffdaa
open Go.ChangeShapes Go.WideShapes Go.ChangeAt Go.RowKit

theorem own : ownKnob Try.prog.godebug = none := by kernel_rfl
theorem laidOut : laidOutB Try.prog = true := by kernel_rfl
theorem wf_u8 {n : Int} (h : (Lit.int .u8 n).wf = true) : 0 ≤ n ∧ n < 256 := by
  have : 0 ≤ n ∧ n ≤ 255 := by simpa [Lit.wf, IntKind.min, IntKind.max, IntKind.signed, IntKind.bits] using h
  omega
theorem wf_u32 {n : Int} (h : (Lit.int .u32 n).wf = true) : 0 ≤ n ∧ n < 4294967296 := by
  have : 0 ≤ n ∧ n ≤ 4294967295 := by simpa [Lit.wf, IntKind.min, IntKind.max, IntKind.signed, IntKind.bits] using h
  omega
theorem cells27 : Try.prog.cellsOf 27 = 5 := by kernel_rfl
theorem cells33 : Try.prog.cellsOf 33 = 8 := by kernel_rfl
theorem cells31 : Try.prog.cellsOf 31 = 6 := by kernel_rfl
theorem cells50 : Try.prog.cellsOf 50 = 2 := by kernel_rfl
theorem cells29 : Try.prog.cellsOf 29 = 1 := by kernel_rfl
theorem cells9 : Try.prog.cellsOf 9 = 1 := by kernel_rfl
theorem cells5 : Try.prog.cellsOf 5 = 1 := by kernel_rfl
theorem cells4 : Try.prog.cellsOf 4 = 1 := by kernel_rfl
theorem cells3 : Try.prog.cellsOf 3 = 1 := by kernel_rfl
theorem bytes27 : 1 ≤ Try.prog.bytesOf 27 := of_decide_eq_true (by kernel_rfl)
theorem bytes33 : 1 ≤ Try.prog.bytesOf 33 := of_decide_eq_true (by kernel_rfl)
def ZA : Ac := ⟨false, 0, 0, 0, ⟨#[]⟩⟩
/-- One deed, off its five cells. -/
theorem one_act {H : Type} {enc : TypeId × Value → H} {W : World} {fuel : Nat} {cs : List Value} {d : DataW H × List MemPlace} (h : DataW.trod enc Try.prog W 0 (fun _ => true) true fuel 27 cs = some d) : ∃ a : Ac, a.ok ∧ cs = ac a := by
  obtain ⟨ys, n, _, _, hl, hy, hf⟩ := DataW.trod_struct Try.underlying27 h
  rw [cells27] at hl
  match cs, hl with
  | [v0, v1, v2, v3, v4], _ =>
    have hy : ys.length = 5 := hy
    match ys, hy with
    | [y0, y1, y2, y3, y4], _ =>
      have f0 := hf 0 _ rfl
      have f1 := hf 1 _ rfl
      have f2 := hf 2 _ rfl
      have f3 := hf 3 _ rfl
      have f4 := hf 4 _ rfl
      simp only [cells5, cells9, cells4, List.drop_zero, List.drop_succ_cons, List.take_succ_cons, List.take_zero, List.getElem?_cons_zero, List.getElem?_cons_succ] at f0 f1 f2 f3 f4
      obtain ⟨b0, e0, _⟩ := DataW.trod_bool Try.underlying4 f0
      obtain ⟨n1, e1, _, w1⟩ := DataW.trod_int Try.underlying5 f1
      obtain ⟨n2, e2, _, w2⟩ := DataW.trod_int Try.underlying5 f2
      obtain ⟨n3, e3, _, w3⟩ := DataW.trod_int Try.underlying5 f3
      obtain ⟨T, e4, _, w4⟩ := DataW.trod_string Try.underlying9 f4
      refine ⟨⟨b0, n1, n2, n3, T⟩, ⟨wf_u8 w1, wf_u8 w2, wf_u8 w3, by unfold maxLen at w4; exact w4⟩, ?_⟩
      have e0 := List.head_eq_of_cons_eq e0
      have e1 := List.head_eq_of_cons_eq e1
      have e2 := List.head_eq_of_cons_eq e2
      have e3 := List.head_eq_of_cons_eq e3
      have e4 := List.head_eq_of_cons_eq e4
      rw [e0, e1, e2, e3, e4]
      rfl
/-- One holder, off its eight cells. -/
theorem one_holder {H : Type} {enc : TypeId × Value → H} {W : World} {fuel : Nat} {cs : List Value} {d : DataW H × List MemPlace} (h : DataW.trod enc Try.prog W 0 (fun _ => true) true fuel 33 cs = some d) : ∃ a : Hr, a.ok ∧ cs = hl a := by
  obtain ⟨ys, n, _, _, hl', hy, hf⟩ := DataW.trod_struct Try.underlying33 h
  rw [cells33] at hl'
  match cs, hl' with
  | [v0, v1, v2, v3, v4, v5, v6, v7], _ =>
    have hy : ys.length = 3 := hy
    match ys, hy with
    | [y0, y1, y2], _ =>
      have f0 := hf 0 _ rfl
      have f1 := hf 1 _ rfl
      have f2 := hf 2 _ rfl
      simp only [cells29, cells9, cells31, List.drop_zero, List.drop_succ_cons, List.take_succ_cons, List.take_zero, List.getElem?_cons_zero, List.getElem?_cons_succ] at f0 f1 f2
      obtain ⟨n0, e0, _, w0⟩ := DataW.trod_int Try.underlying29 f0
      obtain ⟨T, e1, _, w1⟩ := DataW.trod_string Try.underlying9 f1
      obtain ⟨xs, m, _, _, _, hxl, hxe⟩ := DataW.trod_array Try.underlying31 f2
      match xs, hxl with
      | [z0, z1, z2, z3, z4, z5], _ =>
        have g0 := hxe 0 (by omega)
        have g1 := hxe 1 (by omega)
        have g2 := hxe 2 (by omega)
        have g3 := hxe 3 (by omega)
        have g4 := hxe 4 (by omega)
        have g5 := hxe 5 (by omega)
        simp only [cells5] at g0 g1 g2 g3 g4 g5
        obtain ⟨b0, j0, _, _⟩ := DataW.trod_int Try.underlying5 (show DataW.trod enc Try.prog W 0 (fun _ => true) true m 5 [v2] = some z0 from g0)
        obtain ⟨b1, j1, _, _⟩ := DataW.trod_int Try.underlying5 (show DataW.trod enc Try.prog W 0 (fun _ => true) true m 5 [v3] = some z1 from g1)
        obtain ⟨b2, j2, _, _⟩ := DataW.trod_int Try.underlying5 (show DataW.trod enc Try.prog W 0 (fun _ => true) true m 5 [v4] = some z2 from g2)
        obtain ⟨b3, j3, _, _⟩ := DataW.trod_int Try.underlying5 (show DataW.trod enc Try.prog W 0 (fun _ => true) true m 5 [v5] = some z3 from g3)
        obtain ⟨b4, j4, _, _⟩ := DataW.trod_int Try.underlying5 (show DataW.trod enc Try.prog W 0 (fun _ => true) true m 5 [v6] = some z4 from g4)
        obtain ⟨b5, j5, _, _⟩ := DataW.trod_int Try.underlying5 (show DataW.trod enc Try.prog W 0 (fun _ => true) true m 5 [v7] = some z5 from g5)
        refine ⟨⟨n0, T, b0, b1, b2, b3, b4, b5⟩, ⟨(wf_u32 w0).1, (wf_u32 w0).2, by unfold maxLen at w1; exact w1⟩, ?_⟩
        have e0 := List.head_eq_of_cons_eq e0
        have e1 := List.head_eq_of_cons_eq e1
        have j0 := List.head_eq_of_cons_eq j0
        have j1 := List.head_eq_of_cons_eq j1
        have j2 := List.head_eq_of_cons_eq j2
        have j3 := List.head_eq_of_cons_eq j3
        have j4 := List.head_eq_of_cons_eq j4
        have j5 := List.head_eq_of_cons_eq j5
        rw [e0, e1, j0, j1, j2, j3, j4, j5]
        rfl
/-- What a slice of structs that came in has. -/
theorem open_row {α : Type} {H : Type} {enc : TypeId × Value → H} {W : World} (S E N : Nat) (ok : α → Prop) (cl : α → List Value) (z0 : α) (hS : Try.prog.underlying S = some (.slice E)) (hN : Try.prog.cellsOf E = N) (hB : 1 ≤ Try.prog.bytesOf E) (hcl : ∀ a, (cl a).length = N)
    (hone : ∀ fuel cs d, DataW.trod enc Try.prog W 0 (fun _ => true) true fuel E cs = some d → ∃ a, ok a ∧ cs = cl a) {a : Option Addr} {len cap : Nat} {d : DataW H} {p : List MemPlace}
    (h : DataW.Trod enc Try.prog W 0 (fun _ => true) true S (.slice a len cap) d p)
    (hs : ∀ elems spare, d = .slice elems spare → (elems.length + spare.length) * Try.prog.bytesOf E ≤ reachBytes) : ∃ xs : List α, len = xs.length ∧ (xs.length ≤ 140737488355328 ∧ ∀ (q : Nat) (x : α), xs[q]? = some x → ok x ∧ ∃ y, a = some y ∧ ∀ j v, (cl x)[j]? = some v → W.cell? (y.add (q * N + j)) = some v) ∧ len ≤ cap := by
  obtain ⟨fuel, hf⟩ := h
  rcases Go.Deep.open_slice hS hf with ⟨hcs, _⟩ | ⟨x, l, c, m, n, D, Pl, hcs, _, hl, _, hm, hx, hi⟩
  · simp [Value.cells] at hcs
    obtain ⟨rfl, rfl, rfl⟩ := hcs
    exact ⟨[], rfl, ⟨by simp, fun q a hq => by simp at hq⟩, Nat.le_refl _⟩
  · simp [Value.cells] at hcs
    obtain ⟨rfl, rfl, rfl⟩ := hcs
    have hm : m = cap := by simpa using hm
    subst hm
    have hd : d = .slice ((List.range len).map D) ((List.range (m - len)).map fun j => D (len + j)) := by injection hx
    have hr := hs _ _ hd
    simp only [List.length_map, List.length_range, reachBytes] at hr
    have hlen : len ≤ 140737488355328 := by
      have h1 : (len + (m - len)) * 1 ≤ (len + (m - len)) * Try.prog.bytesOf E := Nat.mul_le_mul_left _ hB
      omega
    have hex : ∀ i, i < len → ∃ z : α, ok z ∧ ∀ j v, (cl z)[j]? = some v → W.cell? (x.add (i * N + j)) = some v := by
      intro i hil
      obtain ⟨cs, hc, ht⟩ := hi i (by omega)
      rw [hN] at hc
      obtain ⟨z, hz, rfl⟩ := hone _ _ _ ht
      obtain ⟨_, hcl', hat⟩ := World.cells?_some hc
      refine ⟨z, hz, fun j v hv => ?_⟩
      have hj : j < N := by have := (List.getElem?_eq_some_iff.1 hv).1; rwa [hcl] at this
      rw [← Go.Deep.add_add, hat j hj, hv]
    refine ⟨(List.range len).map fun i => if h : i < len then Classical.choose (hex i h) else z0, by simp, ⟨by simpa using hlen, fun q z hq => ?_⟩, hl⟩
    have hql : q < len := by have := (List.getElem?_eq_some_iff.1 hq).1; simpa using this
    have hz : Classical.choose (hex q hql) = z := by simpa [hql] using hq
    have := Classical.choose_spec (hex q hql)
    rw [hz] at this
    exact ⟨this.1, x, rfl, this.2⟩
theorem open_acts {H : Type} {enc : TypeId × Value → H} {W : World} {a : Option Addr} {len cap : Nat} {d : DataW H} {p : List MemPlace}
    (h : DataW.Trod enc Try.prog W 0 (fun _ => true) true 22 (.slice a len cap) d p)
    (hs : ∀ elems spare, d = .slice elems spare → (elems.length + spare.length) * Try.prog.bytesOf 27 ≤ reachBytes) : ∃ xs : List Ac, len = xs.length ∧ Ra W a xs ∧ len ≤ cap :=
  open_row 22 27 5 Ac.ok ac ZA Try.underlying22 cells27 bytes27 ac_length (fun _ _ _ h => one_act h) h hs
theorem open_holders {H : Type} {enc : TypeId × Value → H} {W : World} {a : Option Addr} {len cap : Nat} {d : DataW H} {p : List MemPlace}
    (h : DataW.Trod enc Try.prog W 0 (fun _ => true) true 24 (.slice a len cap) d p)
    (hs : ∀ elems spare, d = .slice elems spare → (elems.length + spare.length) * Try.prog.bytesOf 33 ≤ reachBytes) : ∃ xs : List Hr, len = xs.length ∧ Hs W a xs ∧ len ≤ cap :=
  open_row 24 33 8 Hr.ok hl zh Try.underlying24 cells33 bytes33 hl_length (fun _ _ _ h => one_holder h) h hs
/-- A prefix that came in. -/
theorem open_block {H : Type} {enc : TypeId × Value → H} {W : World} {r : Reach} {q : Nat} {v : Value} {d : DataW H} {pp : List MemPlace} (hv : Value.okWide Try.prog W r q 50 v)
    (h : DataW.Trod enc Try.prog W 0 (fun _ => true) true 50 v d pp) : ∃ a b : Int, v = .agg #[.int .u32 a, .int .i64 b] ∧ 0 ≤ a ∧ a < 4294967296 := by
  have hv' : ∃ cs, v = .agg cs ∧ cs.size = Try.prog.cellsOf 50 := by
    simp only [Value.okWide, Try.underlying50] at hv
    obtain ⟨cs, h1, h2, _⟩ := hv
    exact ⟨cs, h1, h2⟩
  obtain ⟨⟨cs⟩, rfl, hsz⟩ := hv'
  obtain ⟨fuel, hf⟩ := h
  obtain ⟨ys, n, _, _, hl, hy, hf⟩ := DataW.trod_struct Try.underlying50 hf
  rw [cells50] at hl
  simp only [Value.cells] at hl hf
  match cs, hl with
  | [v0, v1], _ =>
    have hy : ys.length = 2 := hy
    match ys, hy with
    | [y0, y1], _ =>
      have f0 := hf 0 _ rfl
      have f1 := hf 1 _ rfl
      simp only [cells29, cells3, List.drop_zero, List.drop_succ_cons, List.take_succ_cons, List.take_zero, List.getElem?_cons_zero, List.getElem?_cons_succ] at f0 f1
      obtain ⟨n0, e0, _, w0⟩ := DataW.trod_int Try.underlying29 f0
      obtain ⟨n1, e1, _⟩ := DataW.trod_int Try.underlying3 f1
      have e0 := List.head_eq_of_cons_eq e0
      have e1 := List.head_eq_of_cons_eq e1
      exact ⟨n0, n1, by rw [e0, e1], (wf_u32 w0).1, (wf_u32 w0).2⟩
end Go.Proofs.Ytafmcnnbeoffdaa
