/-
  A slice of words that came in is opened into the list of its words. No condition but the form's own reach.
-/
import Derived.Test.YthpgmlijfcfddaaGreatDoorWz
import Derived.Deep.Fields
import Derived.ChangeSame
set_option linter.unusedSimpArgs false
set_option linter.unusedVariables false
namespace Go.Proofs.YthpgmlijfcfddaaGreatDoor
open Go.ChangeShapes Go.WideShapes Go.ChangeAt Go.RowKit

theorem laidOut : laidOutB Tryz.prog = true := by kernel_rfl
theorem bytesW : 1 ≤ Tryz.prog.bytesOf 26 := of_decide_eq_true (by kernel_rfl)
theorem wz_length (x : Wz) : x.cs.length = 11 := rfl
def zW : Wz := ⟨0, 0, 0, 0, 0, 0, 0, 0, 0, 0, ⟨#[]⟩⟩
theorem weights_all {H : Type} {P : Program} {e : TypeId} {d : DataW H} {n : Nat} (hn : n ∈ d.weights P e) : ∀ {l : List (DataW H)}, d ∈ l → n ∈ DataW.weightsAll P e l
  | [], h => by cases h
  | x :: l, h => by
    simp only [DataW.weightsAll, List.mem_append]
    rcases List.mem_cons.1 h with rfl | h
    · exact .inl hn
    · exact .inr (weights_all hn h)
set_option maxRecDepth 100000 in
/-- One of the words, off its eleven cells. -/
theorem one_words {H : Type} {enc : TypeId × Value → H} {W : World} {fuel : Nat} {cs : List Value} {d : DataW H × List MemPlace} (h : DataW.trod enc Tryz.prog W 0 (fun _ => true) true fuel 26 cs = some d) : ∃ x : Wz, Wok x.a x.m0 x.m1 x.m2 x.m3 x.m4 x.m5 x.st x.un x.sp x.T ∧ cs = x.cs ∧ d.1 = wd x.a x.m0 x.m1 x.m2 x.m3 x.m4 x.m5 x.st x.un x.sp x.T := by
  obtain ⟨d, pd⟩ := d
  obtain ⟨ys, n, ex0, ex, hl0, hl, hel⟩ := DataW.trod_struct Tryz.underlying26 h
  rw [cellsW] at hl0
  match cs, hl0 with
  | [c0, c1, c2, c3, c4, c5, c6, c7, c8, c9, c10], _ =>
    have hl : ys.length = 6 := hl
    obtain ⟨y0, y1, y2, y3, y4, y5, rfl⟩ := Mc.list6 hl
    have e0 : DataW.trod enc Tryz.prog W 0 (fun _ => true) true n 22 (([c0, c1, c2, c3, c4, c5, c6, c7, c8, c9, c10].drop 0).take (Tryz.prog.cellsOf 22)) = some y0 := hel 0 _ rfl
    have e1 : DataW.trod enc Tryz.prog W 0 (fun _ => true) true n 24 (([c0, c1, c2, c3, c4, c5, c6, c7, c8, c9, c10].drop 1).take (Tryz.prog.cellsOf 24)) = some y1 := hel 1 _ rfl
    have e2 : DataW.trod enc Tryz.prog W 0 (fun _ => true) true n 5 (([c0, c1, c2, c3, c4, c5, c6, c7, c8, c9, c10].drop 7).take (Tryz.prog.cellsOf 5)) = some y2 := hel 2 _ rfl
    have e3 : DataW.trod enc Tryz.prog W 0 (fun _ => true) true n 3 (([c0, c1, c2, c3, c4, c5, c6, c7, c8, c9, c10].drop 8).take (Tryz.prog.cellsOf 3)) = some y3 := hel 3 _ rfl
    have e4 : DataW.trod enc Tryz.prog W 0 (fun _ => true) true n 5 (([c0, c1, c2, c3, c4, c5, c6, c7, c8, c9, c10].drop 9).take (Tryz.prog.cellsOf 5)) = some y4 := hel 4 _ rfl
    have e5 : DataW.trod enc Tryz.prog W 0 (fun _ => true) true n 9 (([c0, c1, c2, c3, c4, c5, c6, c7, c8, c9, c10].drop 10).take (Tryz.prog.cellsOf 9)) = some y5 := hel 5 _ rfl
    simp only [cellsU, cellsI, cellsS, Mc.cells5, Mc.cells23, Value.cells, List.drop_zero, List.drop_succ_cons, List.take_succ_cons, List.take_zero] at e0 e1 e2 e3 e4 e5
    obtain ⟨a, q0, rfl, w0⟩ := DataW.trod_int Tryz.underlying22 e0
    obtain ⟨st, q2, rfl, w2⟩ := DataW.trod_int Tryz.underlying5 e2
    obtain ⟨un, q3, rfl, w3⟩ := DataW.trod_int Tryz.underlying3 e3
    obtain ⟨sp, q4, rfl, w4⟩ := DataW.trod_int Tryz.underlying5 e4
    obtain ⟨T, q5, rfl, w5⟩ := DataW.trod_string Tryz.underlying9 e5
    obtain ⟨xs, m, _, ey, _, hxl, hxe⟩ := DataW.trod_array Tryz.underlying24 e1
    obtain ⟨z0, z1, z2, z3, z4, z5, rfl⟩ := Mc.list6 hxl
    have g0 := hxe 0 (by omega)
    have g1 := hxe 1 (by omega)
    have g2 := hxe 2 (by omega)
    have g3 := hxe 3 (by omega)
    have g4 := hxe 4 (by omega)
    have g5 := hxe 5 (by omega)
    simp only [Mc.cells5, Value.cells] at g0 g1 g2 g3 g4 g5
    obtain ⟨b0, j0, rfl, x0⟩ := DataW.trod_int Tryz.underlying5 (show DataW.trod enc Tryz.prog W 0 (fun _ => true) true m 5 [c1] = some z0 from g0)
    obtain ⟨b1, j1, rfl, x1⟩ := DataW.trod_int Tryz.underlying5 (show DataW.trod enc Tryz.prog W 0 (fun _ => true) true m 5 [c2] = some z1 from g1)
    obtain ⟨b2, j2, rfl, x2⟩ := DataW.trod_int Tryz.underlying5 (show DataW.trod enc Tryz.prog W 0 (fun _ => true) true m 5 [c3] = some z2 from g2)
    obtain ⟨b3, j3, rfl, x3⟩ := DataW.trod_int Tryz.underlying5 (show DataW.trod enc Tryz.prog W 0 (fun _ => true) true m 5 [c4] = some z3 from g3)
    obtain ⟨b4, j4, rfl, x4⟩ := DataW.trod_int Tryz.underlying5 (show DataW.trod enc Tryz.prog W 0 (fun _ => true) true m 5 [c5] = some z4 from g4)
    obtain ⟨b5, j5, rfl, x5⟩ := DataW.trod_int Tryz.underlying5 (show DataW.trod enc Tryz.prog W 0 (fun _ => true) true m 5 [c6] = some z5 from g5)
    simp only [List.cons.injEq, and_true] at q0 q2 q3 q4 q5 j0 j1 j2 j3 j4 j5
    subst q0 q2 q3 q4 q5 j0 j1 j2 j3 j4 j5
    subst ey
    simp only [Prod.mk.injEq] at ex
    have k0 := bounds_u32 w0
    have k2 := bounds_u8 w2
    have k3 := bounds_i64 w3
    have k4 := bounds_u8 w4
    have l0 := bounds_u8 x0
    have l1 := bounds_u8 x1
    have l2 := bounds_u8 x2
    have l3 := bounds_u8 x3
    have l4 := bounds_u8 x4
    have l5 := bounds_u8 x5
    have wk : Wok a b0 b1 b2 b3 b4 b5 st un sp T := ⟨k0.1, by omega, ⟨l0.1, by omega, l1.1, by omega, l2.1, by omega, l3.1, by omega, l4.1, by omega, l5.1, by omega⟩, k2.1, by omega, by omega, by omega, k4.1, by omega, w5⟩
    exact ⟨⟨a, b0, b1, b2, b3, b4, b5, st, un, sp, T⟩, wk, rfl, ex.1⟩

/-- What a slice of words that came in has. -/
theorem open_words_row {H : Type} {enc : TypeId × Value → H} {W : World} {a : Option Addr} {len cap : Nat} {d : DataW H} {p : List MemPlace}
    (h : DataW.Trod enc Tryz.prog W 0 (fun _ => true) true 43 (.slice a len cap) d p)
    (hs : ∀ n ∈ d.weights Tryz.prog 43, n ≤ reachBytes) : ∃ xs : List Wz, len = xs.length ∧ Rz W a xs ∧ len ≤ cap := by
  obtain ⟨fuel, hf⟩ := h
  rcases Go.Deep.open_slice Tryz.underlying43 hf with ⟨hcs, _⟩ | ⟨x, l, c, m, n, D, Pl, hcs, _, hl, _, hm, hx, hi⟩
  · simp [Value.cells] at hcs
    obtain ⟨rfl, rfl, rfl⟩ := hcs
    exact ⟨[], rfl, ⟨by simp, fun q a hq => by simp at hq⟩, Nat.le_refl _⟩
  · simp [Value.cells] at hcs
    obtain ⟨rfl, rfl, rfl⟩ := hcs
    have hm : m = cap := by simpa using hm
    subst hm
    have hd : d = .slice ((List.range len).map D) ((List.range (m - len)).map fun j => D (len + j)) := by injection hx
    have hr : (len + (m - len)) * Tryz.prog.bytesOf 26 ≤ reachBytes := hs _ (by
      rw [hd]
      simp only [DataW.weights, Tryz.underlying43, List.length_map, List.length_range]
      exact List.mem_cons_self ..)
    have hlen : len ≤ 140737488355328 := by
      have h1 : (len + (m - len)) * 1 ≤ (len + (m - len)) * Tryz.prog.bytesOf 26 := Nat.mul_le_mul_left _ bytesW
      simp only [reachBytes] at hr
      omega
    have hex : ∀ i, i < len → ∃ z : Wz, z.ok ∧ ∀ j v, z.cs[j]? = some v → W.cell? (x.add (i * 11 + j)) = some v := by
      intro i hil
      obtain ⟨cs, hc, ht⟩ := hi i (by omega)
      rw [cellsW] at hc
      obtain ⟨z, hz, rfl, hD⟩ := one_words ht
      obtain ⟨_, hcl', hat⟩ := World.cells?_some hc
      have hT : z.T.data.toList.length ≤ reachBytes := hs _ (by
        rw [hd]
        simp only [DataW.weights, Tryz.underlying43]
        refine List.mem_cons_of_mem _ (List.mem_append_left _ (weights_all (d := D i) ?_ (List.mem_map.2 ⟨i, List.mem_range.2 hil, rfl⟩)))
        have hD' : D i = wd z.a z.m0 z.m1 z.m2 z.m3 z.m4 z.m5 z.st z.un z.sp z.T := hD
        rw [hD']
        simp [DataW.weights, DataW.weightsEach, wd, Tryz.underlying26])
      rw [← Lib.size_eq] at hT
      refine ⟨z, ⟨hz, hT⟩, fun j v hv => ?_⟩
      have hj : j < 11 := by have := (List.getElem?_eq_some_iff.1 hv).1; rwa [wz_length] at this
      rw [← Go.Deep.add_add, hat j hj, hv]
    refine ⟨(List.range len).map fun i => if h : i < len then Classical.choose (hex i h) else zW, by simp, ⟨by simpa using hlen, fun q z hq => ?_⟩, hl⟩
    have hql : q < len := by have := (List.getElem?_eq_some_iff.1 hq).1; simpa using this
    have hz : Classical.choose (hex q hql) = z := by simpa [hql] using hq
    have := Classical.choose_spec (hex q hql)
    rw [hz] at this
    exact ⟨this.1, x, rfl, this.2⟩
end Go.Proofs.YthpgmlijfcfddaaGreatDoor
