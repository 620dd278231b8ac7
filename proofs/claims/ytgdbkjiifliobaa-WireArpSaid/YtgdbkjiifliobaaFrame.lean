/-
  The frame of layer 7's rows: a packet, and a slice of bytes, that came in are opened. No condition but the form's own reach.
-/
import Derived.Test.YtgdbkjiifliobaaRows
import Derived.Test.YtgdbkjiifliobaaAwake
import Derived.ProofKit
import Derived.OpenShut
import Derived.ShutString
import Derived.ChangeOld
import Derived.Below
import Derived.SizedLaws
import Derived.Deep.Fields
import Derived.ChangeSame
set_option linter.unusedSimpArgs false
namespace Go.Proofs.Ytgdbkjiifliobaa
open Go.ChangeShapes Go.WideShapes Go.ChangeAt Go.RowKit
theorem own : ownKnob Try.prog.godebug = none := by kernel_rfl
theorem laidOut : laidOutB Try.prog = true := by kernel_rfl
theorem bytes5 : Try.prog.bytesOf 5 = 1 := by kernel_rfl
theorem cells27 : Try.prog.cellsOf 27 = 11 := by kernel_rfl
theorem cells25 : Try.prog.cellsOf 25 = 6 := by kernel_rfl
theorem cells23 : Try.prog.cellsOf 23 = 1 := by kernel_rfl
theorem cells5 : Try.prog.cellsOf 5 = 1 := by kernel_rfl
theorem cells4 : Try.prog.cellsOf 4 = 1 := by kernel_rfl
theorem cells3 : Try.prog.cellsOf 3 = 1 := by kernel_rfl

theorem wf_u8 {n : Int} (h : (Lit.int .u8 n).wf = true) : 0 ≤ n ∧ n < 256 := by
  have : 0 ≤ n ∧ n ≤ 255 := by simpa [Lit.wf, IntKind.min, IntKind.max, IntKind.signed, IntKind.bits] using h
  omega
theorem nat_u8 {n : Int} (h : (Lit.int .u8 n).wf = true) : ∃ m : Nat, n = m ∧ m < 256 := ⟨n.toNat, by have := wf_u8 h; omega, by have := wf_u8 h; omega⟩
theorem nat_u32 {n : Int} (h : (Lit.int .u32 n).wf = true) : ∃ m : Nat, n = m ∧ m < 4294967296 := by
  have : 0 ≤ n ∧ n ≤ 4294967295 := by simpa [Lit.wf, IntKind.min, IntKind.max, IntKind.signed, IntKind.bits] using h
  exact ⟨n.toNat, by omega, by omega⟩
theorem wf_i64 {n : Int} (h : (Lit.int .i64 n).wf = true) : -9223372036854775808 ≤ n ∧ n < 9223372036854775808 := by
  have : -9223372036854775808 ≤ n ∧ n ≤ 9223372036854775807 := by simpa [Lit.wf, IntKind.min, IntKind.max, IntKind.signed, IntKind.bits] using h
  omega
/-- The numbers of a packet have 64 bits. -/
def Pk.In (p : Pk) : Prop := (-9223372036854775808 ≤ p.i ∧ p.i < 9223372036854775808) ∧ (-9223372036854775808 ≤ p.s ∧ p.s < 9223372036854775808)

theorem list6 {α : Type} {l : List α} (h : l.length = 6) : ∃ c0 c1 c2 c3 c4 c5, l = [c0, c1, c2, c3, c4, c5] := by
  match l, h with
  | [c0, c1, c2, c3, c4, c5], _ => exact ⟨c0, c1, c2, c3, c4, c5, rfl⟩

theorem open_pk {H : Type} {enc : TypeId × Value → H} {W : World} {r : Reach} {q : Nat} {v : Value} {d : DataW H} {pp : List MemPlace} (hv : Value.okWide Try.prog W r q 27 v)
    (h : DataW.Trod enc Try.prog W 0 (fun _ => true) true 27 v d pp) : ∃ p : Pk, v = pv p ∧ p.Ok ∧ p.In := by
  have hv' : ∃ cs, v = .agg cs ∧ cs.size = Try.prog.cellsOf 27 := by
    simp only [Value.okWide, Try.underlying27] at hv
    obtain ⟨cs, h1, h2, _⟩ := hv
    exact ⟨cs, h1, h2⟩
  obtain ⟨⟨cs⟩, rfl, hsz⟩ := hv'
  obtain ⟨fuel, hf⟩ := h
  obtain ⟨ys, n, _, _, hl, hy, hf⟩ := DataW.trod_struct Try.underlying27 hf
  rw [cells27] at hl
  simp only [Value.cells] at hl hf
  match cs, hl with
  | [v0, v1, v2, v3, v4, v5, v6, v7, v8, v9, v10], _ =>
    have hy : ys.length = 6 := hy
    match ys, hy with
    | [y0, y1, y2, y3, y4, y5], _ =>
      have f0 := hf 0 _ rfl
      have f1 := hf 1 _ rfl
      have f2 := hf 2 _ rfl
      have f3 := hf 3 _ rfl
      have f4 := hf 4 _ rfl
      have f5 := hf 5 _ rfl
      simp only [cells4, cells23, cells25, cells3, List.drop_zero, List.drop_succ_cons, List.take_succ_cons, List.take_zero, List.getElem?_cons_zero, List.getElem?_cons_succ] at f0 f1 f2 f3 f4 f5
      obtain ⟨n1, e1, _, w1⟩ := DataW.trod_int Try.underlying23 f1
      obtain ⟨n2, e2, _, w2⟩ := DataW.trod_int Try.underlying23 f2
      obtain ⟨n4, e4, _, w4⟩ := DataW.trod_int Try.underlying3 f4
      obtain ⟨n5, e5, _, w5⟩ := DataW.trod_int Try.underlying3 f5
      obtain ⟨b0, e0, _⟩ := DataW.trod_bool Try.underlying4 f0
      obtain ⟨xs, m, _, _, _, hl, hel⟩ := DataW.trod_array Try.underlying25 f3
      obtain ⟨z0, z1, z2, z3, z4, z5, rfl⟩ := list6 hl
      have g0 := hel 0 (by omega)
      have g1 := hel 1 (by omega)
      have g2 := hel 2 (by omega)
      have g3 := hel 3 (by omega)
      have g4 := hel 4 (by omega)
      have g5 := hel 5 (by omega)
      simp only [cells5] at g0 g1 g2 g3 g4 g5
      obtain ⟨k0, q0, _, u0⟩ := DataW.trod_int Try.underlying5 (show DataW.trod enc Try.prog W 0 _ _ m 5 [v3] = some z0 from g0)
      obtain ⟨k1, q1, _, u1⟩ := DataW.trod_int Try.underlying5 (show DataW.trod enc Try.prog W 0 _ _ m 5 [v4] = some z1 from g1)
      obtain ⟨k2, q2, _, u2⟩ := DataW.trod_int Try.underlying5 (show DataW.trod enc Try.prog W 0 _ _ m 5 [v5] = some z2 from g2)
      obtain ⟨k3, q3, _, u3⟩ := DataW.trod_int Try.underlying5 (show DataW.trod enc Try.prog W 0 _ _ m 5 [v6] = some z3 from g3)
      obtain ⟨k4, q4, _, u4⟩ := DataW.trod_int Try.underlying5 (show DataW.trod enc Try.prog W 0 _ _ m 5 [v7] = some z4 from g4)
      obtain ⟨k5, q5, _, u5⟩ := DataW.trod_int Try.underlying5 (show DataW.trod enc Try.prog W 0 _ _ m 5 [v8] = some z5 from g5)
      obtain ⟨F, rfl, bF⟩ := nat_u32 w1
      obtain ⟨T, rfl, bT⟩ := nat_u32 w2
      obtain ⟨m0, rfl, b0'⟩ := nat_u8 u0
      obtain ⟨m1, rfl, b1'⟩ := nat_u8 u1
      obtain ⟨m2, rfl, b2'⟩ := nat_u8 u2
      obtain ⟨m3, rfl, b3'⟩ := nat_u8 u3
      obtain ⟨m4, rfl, b4'⟩ := nat_u8 u4
      obtain ⟨m5, rfl, b5'⟩ := nat_u8 u5
      refine ⟨⟨b0, F, T, m0, m1, m2, m3, m4, m5, n4, n5⟩, ?_, ⟨bF, bT, b0', b1', b2', b3', b4', b5'⟩, wf_i64 w4, wf_i64 w5⟩
      rw [List.head_eq_of_cons_eq e0, List.head_eq_of_cons_eq e1, List.head_eq_of_cons_eq e2, List.head_eq_of_cons_eq e4, List.head_eq_of_cons_eq e5, List.head_eq_of_cons_eq q0, List.head_eq_of_cons_eq q1, List.head_eq_of_cons_eq q2, List.head_eq_of_cons_eq q3, List.head_eq_of_cons_eq q4, List.head_eq_of_cons_eq q5]
      rfl

theorem open_bytes {H : Type} {enc : TypeId × Value → H} {W : World} {a : Option Addr} {len cap : Nat} {d : DataW H} {p : List MemPlace}
    (h : DataW.Trod enc Try.prog W 0 (fun _ => true) true 28 (.slice a len cap) d p)
    (hs : ∀ elems spare, d = .slice elems spare → (elems.length + spare.length) * Try.prog.bytesOf 5 ≤ reachBytes) : ∃ zs : List Nat, len = zs.length ∧ Rd W a zs ∧ zs.length ≤ 140737488351232 ∧ len ≤ cap := by
  obtain ⟨fuel, hf⟩ := h
  rcases open_ints Try.underlying28 Try.underlying5 (by kernel_rfl) hf with ⟨hcs, _⟩ | ⟨x, l, c, zs, hcs, _, hl, hm, hz, hx, hcell, hwz⟩
  · simp [Value.cells] at hcs
    obtain ⟨rfl, rfl, rfl⟩ := hcs
    exact ⟨[], rfl, ⟨by simp, fun i => by simp, fun k hk => by simp at hk⟩, by simp, Nat.le_refl _⟩
  · simp [Value.cells] at hcs
    obtain ⟨rfl, rfl, rfl⟩ := hcs
    have hd : d = .slice (lits .u8 (zs.take len)) (lits .u8 (zs.drop len)) := by injection hx
    have hr := hs _ _ hd
    have hz : zs.length = cap := by simpa using hz
    rw [bytes5] at hr
    simp only [lits, List.length_map, List.length_take, List.length_drop, reachBytes] at hr
    have hg : ∀ k, k < len → ((zs.take len).map Int.toNat).getD k 0 = (zs.getD k 0).toNat := by
      intro k hk
      rw [List.getD_eq_getElem?_getD, List.getElem?_map, List.getElem?_take, if_pos hk, List.getD_eq_getElem?_getD]
      cases zs[k]? <;> rfl
    have hlen : ((zs.take len).map Int.toNat).length = len := by simp; omega
    have hin : ∀ k, k < zs.length → 0 ≤ zs.getD k 0 ∧ zs.getD k 0 < 256 := by
      intro k hk
      refine wf_u8 (hwz _ ?_)
      rw [List.getD_eq_getElem?_getD, List.getElem?_eq_getElem hk]
      exact List.getElem_mem hk
    refine ⟨(zs.take len).map Int.toNat, hlen.symm, ⟨by omega, fun i => ?_, fun k hk => ⟨_, rfl, ?_⟩⟩, by omega, hl⟩
    · rcases Nat.lt_or_ge i len with hi | hi
      · have := hin i (by omega)
        rw [hg i hi]
        omega
      · rw [getD_past (by omega)]
        omega
    · rw [hlen] at hk
      have := hin k (by omega)
      rw [hg k hk, hcell k (by omega), Int.toNat_of_nonneg this.1]
end Go.Proofs.Ytgdbkjiifliobaa
