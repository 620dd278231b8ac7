/-
  A slice of deeds that came in is opened into the list of its deeds. No condition but the form's own reach.
-/
import Derived.Test.YtbfkpapankgndaaFrame
import Derived.Test.YtbfkpapankgndaaActs
import Derived.Deep.Fields
import Derived.ChangeSame
import Derived.ChangeOld
import Derived.SizedLaws
set_option linter.unusedSimpArgs false
namespace Go.Proofs.Ytbfkpapankgndaa
open Go.ChangeShapes Go.WideShapes Go.ChangeAt Go.RowKit

theorem laidOut : laidOutB Try.prog = true := by kernel_rfl
theorem cells34 : Try.prog.cellsOf 34 = 6 := by kernel_rfl
theorem cells32 : Try.prog.cellsOf 32 = 2 := by kernel_rfl
theorem cells5 : Try.prog.cellsOf 5 = 1 := by kernel_rfl
theorem cells29 : Try.prog.cellsOf 29 = 1 := by kernel_rfl
theorem cells30 : Try.prog.cellsOf 30 = 1 := by kernel_rfl
theorem cells4 : Try.prog.cellsOf 4 = 1 := by kernel_rfl
theorem cells3 : Try.prog.cellsOf 3 = 1 := by kernel_rfl
theorem bytes34 : 1 ≤ Try.prog.bytesOf 34 := of_decide_eq_true (by kernel_rfl)
theorem ac_length (a : Ac) : (ac a).length = 6 := rfl
def ZA : Ac := ⟨0, 0, 0, false, 0, 0⟩
/-- One deed, off its six cells. -/
theorem one_act {H : Type} {enc : TypeId × Value → H} {W : World} {fuel : Nat} {cs : List Value} {d : DataW H × List MemPlace} (h : DataW.trod enc Try.prog W 0 (fun _ => true) true fuel 34 cs = some d) : ∃ a : Ac, a.ok ∧ cs = ac a := by
  obtain ⟨ys, n, _, _, hl, hy, hf⟩ := DataW.trod_struct Try.underlying34 h
  rw [cells34] at hl
  match cs, hl with
  | [v0, v1, v2, v3, v4, v5], _ =>
    have hy : ys.length = 5 := hy
    match ys, hy with
    | [y0, y1, y2, y3, y4], _ =>
      have f0 := hf 0 _ rfl
      have f1 := hf 1 _ rfl
      have f2 := hf 2 _ rfl
      have f3 := hf 3 _ rfl
      have f4 := hf 4 _ rfl
      simp only [cells5, cells29, cells4, cells32, List.drop_zero, List.drop_succ_cons, List.take_succ_cons, List.take_zero, List.getElem?_cons_zero, List.getElem?_cons_succ] at f0 f1 f2 f3 f4
      obtain ⟨n0, e0, _, w0⟩ := DataW.trod_int Try.underlying5 f0
      obtain ⟨n1, e1, _, w1⟩ := DataW.trod_int Try.underlying29 f1
      obtain ⟨n2, e2, _, w2⟩ := DataW.trod_int Try.underlying5 f2
      obtain ⟨b3, e3, _⟩ := DataW.trod_bool Try.underlying4 f3
      obtain ⟨zs, n', _, _, hl4, hz, hg⟩ := DataW.trod_struct Try.underlying32 f4
      have hz : zs.length = 2 := hz
      match zs, hz with
      | [z0, z1], _ =>
        have g0 := hg 0 _ rfl
        have g1 := hg 1 _ rfl
        simp only [cells30, cells3, List.drop_zero, List.drop_succ_cons, List.take_succ_cons, List.take_zero, List.getElem?_cons_zero, List.getElem?_cons_succ] at g0 g1
        obtain ⟨n4, e4, _, w4⟩ := DataW.trod_int Try.underlying30 g0
        obtain ⟨n5, e5, _, w5⟩ := DataW.trod_int Try.underlying3 g1
        refine ⟨⟨n0, n1, n2, b3, n4, n5⟩, ⟨wf_u8 w0, wf_u32 w1, wf_u8 w2, wf_u32 w4⟩, ?_⟩
        have e0 := List.head_eq_of_cons_eq e0
        have e1 := List.head_eq_of_cons_eq e1
        have e2 := List.head_eq_of_cons_eq e2
        have e3 := List.head_eq_of_cons_eq e3
        have e4 := List.head_eq_of_cons_eq e4
        have e5 := List.head_eq_of_cons_eq e5
        rw [e0, e1, e2, e3, e4, e5]
        rfl
theorem open_acts {H : Type} {enc : TypeId × Value → H} {W : World} {a : Option Addr} {len cap : Nat} {d : DataW H} {p : List MemPlace}
    (h : DataW.Trod enc Try.prog W 0 (fun _ => true) true 22 (.slice a len cap) d p)
    (hs : ∀ elems spare, d = .slice elems spare → (elems.length + spare.length) * Try.prog.bytesOf 34 ≤ reachBytes) : ∃ xs : List Ac, len = xs.length ∧ Ra W a xs ∧ len ≤ cap := by
  obtain ⟨fuel, hf⟩ := h
  rcases Go.Deep.open_slice Try.underlying22 hf with ⟨hcs, _⟩ | ⟨x, l, c, m, n, D, Pl, hcs, _, hl, _, hm, hx, hi⟩
  · simp [Value.cells] at hcs
    obtain ⟨rfl, rfl, rfl⟩ := hcs
    exact ⟨[], rfl, ⟨by simp, fun q a hq => by simp at hq⟩, Nat.le_refl _⟩
  · simp [Value.cells] at hcs
    obtain ⟨rfl, rfl, rfl⟩ := hcs
    have hm : m = cap := by simpa using hm
    subst hm
    have hd : d = .slice ((List.range len).map D) ((List.range (m - len)).map fun j => D (len + j)) := by injection hx
    have hr := hs _ _ hd
    simp only [List.length_map, List.length_range, reachBytes] at hr
    have hlen : len ≤ 140737488355328 := by
      have h1 : (len + (m - len)) * 1 ≤ (len + (m - len)) * Try.prog.bytesOf 34 := Nat.mul_le_mul_left _ bytes34
      omega
    have hex : ∀ i, i < len → ∃ z : Ac, z.ok ∧ ∀ j v, (ac z)[j]? = some v → W.cell? (x.add (i * 6 + j)) = some v := by
      intro i hil
      obtain ⟨cs, hc, ht⟩ := hi i (by omega)
      rw [cells34] at hc
      obtain ⟨z, hz, rfl⟩ := one_act ht
      obtain ⟨_, hcl, hat⟩ := World.cells?_some hc
      refine ⟨z, hz, fun j v hv => ?_⟩
      have hj : j < 6 := by have := (List.getElem?_eq_some_iff.1 hv).1; rwa [ac_length] at this
      rw [← Go.Deep.add_add, hat j hj, hv]
    refine ⟨(List.range len).map fun i => if h : i < len then Classical.choose (hex i h) else ZA, by simp, ⟨by simpa using hlen, fun q z hq => ?_⟩, hl⟩
    have hql : q < len := by have := (List.getElem?_eq_some_iff.1 hq).1; simpa using this
    have hz : Classical.choose (hex q hql) = z := by simpa [hql] using hq
    have := Classical.choose_spec (hex q hql)
    rw [hz] at this
    exact ⟨this.1, x, rfl, this.2⟩
end Go.Proofs.Ytbfkpapankgndaa
