/-
  A slice of addresses with their sightings that came in is opened: each address, and the sightings that it leads to. No condition but the form's own reach.
-/
import Derived.Test.YtcnhagcmklgpkaaOpen
set_option linter.unusedSimpArgs false
set_option linter.unusedVariables false
namespace Go.Proofs.Ytcnhagcmklgpkaa
open Go.ChangeShapes Go.WideShapes Go.ChangeAt Go.RowKit

theorem weights_all {H : Type} {P : Program} {e : TypeId} {d : DataW H} {n : Nat} (hn : n ∈ d.weights P e) : ∀ {l : List (DataW H)}, d ∈ l → n ∈ DataW.weightsAll P e l
  | [], h => by cases h
  | x :: l, h => by
    simp only [DataW.weightsAll, List.mem_append]
    rcases List.mem_cons.1 h with rfl | h
    · exact .inl hn
    · exact .inr (weights_all hn h)
/-- One address, and its sightings. -/
theorem one_known {H : Type} {enc : TypeId × Value → H} {W : World} {fuel : Nat} {cs : List Value} {d : DataW H × List MemPlace} (h : DataW.trod enc Try.prog W 0 (fun _ => true) true fuel 53 cs = some d)
    (hs : ∀ n ∈ d.1.weights Try.prog 53, n ≤ reachBytes) : ∃ x : Kn, x.In W ∧ cs = kl x := by
  obtain ⟨ys, n, _, hd, hl, hy, hf⟩ := DataW.trod_struct Try.underlying53 h
  rw [cells53] at hl
  match cs, hl with
  | [v0, v1], _ =>
    have hy : ys.length = 2 := hy
    match ys, hy with
    | [y0, y1], _ =>
      have f0 : DataW.trod enc Try.prog W 0 (fun _ => true) true n 30 (([v0, v1].drop 0).take (Try.prog.cellsOf 30)) = some y0 := hf 0 _ rfl
      have f1 : DataW.trod enc Try.prog W 0 (fun _ => true) true n 39 (([v0, v1].drop 1).take (Try.prog.cellsOf 39)) = some y1 := hf 1 _ rfl
      simp only [cells30, cells39, List.drop_zero, List.drop_succ_cons, List.take_succ_cons, List.take_zero, List.getElem?_cons_zero, List.getElem?_cons_succ] at f0 f1
      obtain ⟨n0, e0, _, w0⟩ := DataW.trod_int Try.underlying30 f0
      have e0 := List.head_eq_of_cons_eq e0
      obtain ⟨d1, p1⟩ := y1
      have hw : ∀ n ∈ d1.weights Try.prog 39, n ≤ reachBytes := fun m hm => hs m (by
        rw [hd]
        simp only [DataW.weights, Try.underlying53]
        simp [DataW.weightsEach, hm])
      rcases Go.Deep.open_slice Try.underlying39 f1 with ⟨hcs, _⟩ | ⟨x, l, c, m, n', D, Pl, hcs, _, hl, hmx, hm, hx, hi⟩
      · have hcs := List.head_eq_of_cons_eq hcs
        exact ⟨⟨n0, none, 0, []⟩, ⟨(wf_u32 w0).1, (wf_u32 w0).2, Rw.nil _ _, by simp, by show (0 : Nat) ≤ maxLen; unfold maxLen; omega⟩, by rw [e0, hcs]; rfl⟩
      · have hcs := List.head_eq_of_cons_eq hcs
        subst hcs
        obtain ⟨ss, g1, g2, g3⟩ := open_sights (d := d1) (p := p1) ⟨n, f1⟩ (fun elems spare he => hw _ (by
          rw [he]
          simp [DataW.weights, Try.underlying39]))
        exact ⟨⟨n0, some x, c, ss⟩, ⟨(wf_u32 w0).1, (wf_u32 w0).2, g2, by rw [← g1]; exact g3, hmx⟩, by rw [e0, g1]; rfl⟩
def zk : Kn := ⟨0, none, 0, []⟩
/-- The addresses of a slice that came in. -/
theorem open_knowns {H : Type} {enc : TypeId × Value → H} {W : World} {a : Option Addr} {len cap : Nat} {d : DataW H} {p : List MemPlace}
    (h : DataW.Trod enc Try.prog W 0 (fun _ => true) true 25 (.slice a len cap) d p)
    (hs : ∀ n ∈ d.weights Try.prog 25, n ≤ reachBytes) : ∃ ps : List Kp, len = ps.length ∧ Ks W a ps ∧ len ≤ cap := by
  obtain ⟨fuel, hf⟩ := h
  rcases Go.Deep.open_slice Try.underlying25 hf with ⟨hcs, _⟩ | ⟨x, l, c, m, n, D, Pl, hcs, _, hl, _, hm, hx, hi⟩
  · simp [Value.cells] at hcs
    obtain ⟨rfl, rfl, rfl⟩ := hcs
    exact ⟨[], rfl, Ks.nil _ _, Nat.le_refl _⟩
  · simp [Value.cells] at hcs
    obtain ⟨rfl, rfl, rfl⟩ := hcs
    have hm : m = cap := by simpa using hm
    subst hm
    have hd : d = .slice ((List.range len).map D) ((List.range (m - len)).map fun j => D (len + j)) := by injection hx
    have hr : (len + (m - len)) * Try.prog.bytesOf 53 ≤ reachBytes := hs _ (by
      rw [hd]
      simp only [DataW.weights, Try.underlying25, List.length_map, List.length_range]
      exact List.mem_cons_self ..)
    have hlen : len ≤ 140737488355328 := by
      have h1 : (len + (m - len)) * 1 ≤ (len + (m - len)) * Try.prog.bytesOf 53 := Nat.mul_le_mul_left _ bytes53
      simp only [reachBytes] at hr
      omega
    have hex : ∀ i, i < len → ∃ z : Kn, z.In W ∧ ∀ j v, (kl z)[j]? = some v → W.cell? (x.add (i * 2 + j)) = some v := by
      intro i hil
      obtain ⟨cs, hc, ht⟩ := hi i (by omega)
      rw [cells53] at hc
      obtain ⟨z, hz, rfl⟩ := one_known ht (fun n hn => hs n (by
        rw [hd]
        simp only [DataW.weights, Try.underlying25]
        exact List.mem_cons_of_mem _ (List.mem_append_left _ (weights_all hn (List.mem_map.2 ⟨i, List.mem_range.2 hil, rfl⟩)))))
      obtain ⟨_, hcl', hat⟩ := World.cells?_some hc
      refine ⟨z, hz, fun j v hv => ?_⟩
      have hj : j < 2 := (List.getElem?_eq_some_iff.1 hv).1
      rw [← Go.Deep.add_add, hat j hj, hv]
    refine ⟨((List.range len).map fun i => if h : i < len then Classical.choose (hex i h) else zk).map Kn.p, by simp, ⟨_, rfl, ⟨by simpa using hlen, fun q z hq => ?_⟩, fun z hz => ?_⟩, hl⟩
    · have hql : q < len := by have := (List.getElem?_eq_some_iff.1 hq).1; simpa using this
      have hz : Classical.choose (hex q hql) = z := by simpa [hql] using hq
      have := Classical.choose_spec (hex q hql)
      rw [hz] at this
      exact ⟨x, rfl, this.2⟩
    · obtain ⟨q, hq, hz⟩ := List.mem_map.1 hz
      have hql := List.mem_range.1 hq
      rw [dif_pos hql] at hz
      have := (Classical.choose_spec (hex q hql)).1
      rwa [hz] at this
end Go.Proofs.Ytcnhagcmklgpkaa
