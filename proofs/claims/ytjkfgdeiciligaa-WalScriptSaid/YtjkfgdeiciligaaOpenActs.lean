/-
  A slice of deeds that came in is opened into the list of its deeds. No condition but the form's own reach.
-/
import Derived.Test.YtjkfgdeiciligaaOpen
import Derived.Test.YtjkfgdeiciligaaDeeds
import Derived.Deep.Fields
import Derived.ChangeSame
set_option linter.unusedSimpArgs false
namespace Go.Proofs.Ytjkfgdeiciligaa
open Go.ChangeShapes Go.WideShapes Go.ChangeAt Go.RowKit

theorem cells35 : Try.prog.cellsOf 35 = 3 := by kernel_rfl
theorem cells5 : Try.prog.cellsOf 5 = 1 := by kernel_rfl
theorem cells33 : Try.prog.cellsOf 33 = 1 := by kernel_rfl
theorem cells22 : Try.prog.cellsOf 22 = 1 := by kernel_rfl
theorem bytes35 : 1 ≤ Try.prog.bytesOf 35 := of_decide_eq_true (by kernel_rfl)
/-- One deed, off its three cells. -/
theorem one_deed {H : Type} {enc : TypeId × Value → H} {W : World} {fuel : Nat} {cs : List Value} {d : DataW H × List MemPlace} (h : DataW.trod enc Try.prog W 0 (fun _ => true) true fuel 35 cs = some d) : ∃ a : Dd, a.ok W ∧ cs = dc a := by
  obtain ⟨ys, n, _, _, hl, hy, hf⟩ := DataW.trod_struct Try.underlying35 h
  rw [cells35] at hl
  match cs, hl with
  | [v0, v1, v2], _ =>
    have hy : ys.length = 3 := hy
    match ys, hy with
    | [y0, y1, y2], _ =>
      have f0 := hf 0 _ rfl
      have f1 := hf 1 _ rfl
      have f2 := hf 2 _ rfl
      simp only [cells5, cells33, cells22, List.drop_zero, List.drop_succ_cons, List.take_succ_cons, List.take_zero, List.getElem?_cons_zero, List.getElem?_cons_succ] at f0 f1 f2
      obtain ⟨n0, e0, _, w0⟩ := DataW.trod_int Try.underlying5 f0
      obtain ⟨n2, e2, _, w2⟩ := DataW.trod_int Try.underlying22 f2
      obtain ⟨m0, rfl, b0⟩ := nat_u8 w0
      obtain ⟨m2, rfl, b2⟩ := nat_u16 w2
      have e0 := List.head_eq_of_cons_eq e0
      have e2 := List.head_eq_of_cons_eq e2
      rcases open_ints Try.underlying33 Try.underlying5 (by kernel_rfl) f1 with ⟨e1, _⟩ | ⟨x, l, c, zs, e1, _, hl, hm, hz, _, hcell, hwz⟩
      · have e1 := List.head_eq_of_cons_eq e1
        exact ⟨⟨m0, none, 0, 0, [], m2⟩, ⟨b0, b2, Nat.le_refl _, by simp, by simp, Rd.nil _ _⟩, by rw [e0, e1, e2]; rfl⟩
      · have e1 := List.head_eq_of_cons_eq e1
        have hz : zs.length = c := by simpa using hz
        have hin : ∀ k, k < zs.length → 0 ≤ zs.getD k 0 ∧ zs.getD k 0 < 256 := by
          intro k hk
          refine wf_u8 (hwz _ ?_)
          rw [List.getD_eq_getElem?_getD, List.getElem?_eq_getElem hk]
          exact List.getElem_mem hk
        have hlen : ((zs.take (min l 300)).map Int.toNat).length = min l 300 := by rw [List.length_map, List.length_take]; omega
        have hg : ∀ k, k < min l 300 → ((zs.take (min l 300)).map Int.toNat).getD k 0 = (zs.getD k 0).toNat := by
          intro k hk
          rw [List.getD_eq_getElem?_getD, List.getElem?_map, List.getElem?_take, if_pos hk, List.getD_eq_getElem?_getD]
          cases zs[k]? <;> rfl
        have hm' : c ≤ 9223372036854775807 := by have := hm; unfold maxLen at this; omega
        refine ⟨⟨m0, some x, l, c, (zs.take (min l 300)).map Int.toNat, m2⟩, ⟨b0, b2, hl, by show l ≤ _; omega, hlen, ⟨by rw [hlen]; omega, fun i => ?_, fun k hk => ⟨_, rfl, ?_⟩⟩⟩, by rw [e0, e1, e2]; rfl⟩
        · rcases Nat.lt_or_ge i (min l 300) with hi | hi
          · have := hin i (by omega)
            rw [hg i hi]
            omega
          · rw [List.getD_eq_getElem?_getD, List.getElem?_eq_none (by show ((zs.take (min l 300)).map Int.toNat).length ≤ i; rw [hlen]; exact hi)]
            simp
        · rw [hlen] at hk
          have := hin k (by omega)
          rw [hg k hk, hcell k (by omega), Int.toNat_of_nonneg this.1]
theorem open_acts {H : Type} {enc : TypeId × Value → H} {W : World} {a : Option Addr} {len cap : Nat} {d : DataW H} {p : List MemPlace}
    (h : DataW.Trod enc Try.prog W 0 (fun _ => true) true 23 (.slice a len cap) d p)
    (hs : ∀ elems spare, d = .slice elems spare → (elems.length + spare.length) * Try.prog.bytesOf 35 ≤ reachBytes) : ∃ xs : List Dd, len = xs.length ∧ Ra W a xs ∧ len ≤ cap := by
  obtain ⟨fuel, hf⟩ := h
  rcases Go.Deep.open_slice Try.underlying23 hf with ⟨hcs, _⟩ | ⟨x, l, c, m, n, D, Pl, hcs, _, hl, _, hm, hx, hi⟩
  · simp [Value.cells] at hcs
    obtain ⟨rfl, rfl, rfl⟩ := hcs
    exact ⟨[], rfl, ⟨by simp, fun q a hq => by simp at hq⟩, Nat.le_refl _⟩
  · simp [Value.cells] at hcs
    obtain ⟨rfl, rfl, rfl⟩ := hcs
    have hm : m = cap := by simpa using hm
    subst hm
    have hd : d = .slice ((List.range len).map D) ((List.range (m - len)).map fun j => D (len + j)) := by injection hx
    have hr := hs _ _ hd
    simp only [List.length_map, List.length_range, reachBytes] at hr
    have hlen : len ≤ 140737488355328 := by
      have h1 : (len + (m - len)) * 1 ≤ (len + (m - len)) * Try.prog.bytesOf 35 := Nat.mul_le_mul_left _ bytes35
      omega
    have hex : ∀ i, i < len → ∃ z : Dd, z.ok W ∧ ∀ j v, (dc z)[j]? = some v → W.cell? (x.add (i * 3 + j)) = some v := by
      intro i hil
      obtain ⟨cs, hc, ht⟩ := hi i (by omega)
      rw [cells35] at hc
      obtain ⟨z, hz, rfl⟩ := one_deed ht
      obtain ⟨_, hcl, hat⟩ := World.cells?_some hc
      refine ⟨z, hz, fun j v hv => ?_⟩
      have hj : j < 3 := by have := (List.getElem?_eq_some_iff.1 hv).1; rwa [dc_length] at this
      rw [← Go.Deep.add_add, hat j hj, hv]
    refine ⟨(List.range len).map fun i => if h : i < len then Classical.choose (hex i h) else ZA, by simp, ⟨by simpa using hlen, fun q z hq => ?_⟩, hl⟩
    have hql : q < len := by have := (List.getElem?_eq_some_iff.1 hq).1; simpa using this
    have hz : Classical.choose (hex q hql) = z := by simpa [hql] using hq
    have := Classical.choose_spec (hex q hql)
    rw [hz] at this
    exact ⟨this.1, x, rfl, this.2⟩
end Go.Proofs.Ytjkfgdeiciligaa
