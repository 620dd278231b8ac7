/-
  What the two halves of a prefix tell, as plain numbers. No condition but the bounds that are named.
-/
import Derived.Test.YtbfkpapankgndaaTwoWalk
namespace Go.Proofs.Ytbfkpapankgndaa
open Go.RowKit

/-- What the two halves of a prefix tell. -/
structure Hv (ba bb x c : Int) (q : Bool) : Prop where
  b0 : 0 ≤ ba
  b1 : ba < 4294967296
  bits0 : 0 ≤ bb
  bits1 : bb < 32
  bok : okB ba bb = true
  x0 : ba ≤ x
  x1 : x < ba + p2 bb
  c0 : 0 ≤ c
  c1 : c < 4294967296
  ne : c ≠ ba
  has : hasB (ba + p2 (bb + 1)) (bb + 1) x = q
namespace Hv
variable {ba bb x c : Int} {q : Bool}
theorem two (h : Hv ba bb x c q) : p2 bb = 2 * p2 (bb + 1) := p2_succ bb h.bits1
theorem top (h : Hv ba bb x c q) : ba + p2 bb ≤ 4294967296 := room h.bok h.b1
theorem mb (h : Hv ba bb x c q) : ba % p2 bb = 0 := (ok_out h.bok).2.2
theorem ml (h : Hv ba bb x c q) : ba % p2 (bb + 1) = 0 := Int.emod_eq_zero_of_dvd (Int.dvd_trans (p2_dvd (by omega)) (Int.dvd_of_emod_eq_zero h.mb))
theorem mr (h : Hv ba bb x c q) : (ba + p2 (bb + 1)) % p2 (bb + 1) = 0 := by rw [Int.add_emod_right]; exact h.ml
theorem okl (h : Hv ba bb x c q) : okB ba (bb + 1) = true := ok_iff.2 ⟨by have := h.bits0; omega, by have := h.bits1; omega, h.ml⟩
theorem okr (h : Hv ba bb x c q) : okB (ba + p2 (bb + 1)) (bb + 1) = true := ok_iff.2 ⟨by have := h.bits0; omega, by have := h.bits1; omega, h.mr⟩
theorem r1 (h : Hv ba bb x c q) : ba + p2 (bb + 1) < 4294967296 := by have := h.top; have := h.two; have := p2_pos (bb + 1); omega
theorem floor {y n : Int} {P : Int} (_hP : 0 < P) (hn : n % P = 0) (h0 : n ≤ y) (h1 : y < n + P) : y - y % P = n := by
  have h2 : (y - n) % P = y - n := Int.emod_eq_of_lt (by omega) (by omega)
  have h3 : y % P = (y - n) % P := by rw [Int.sub_emod, hn, Int.sub_zero, Int.emod_emod]
  omega
theorem hasl (h : Hv ba bb x c q) : hasB ba (bb + 1) x = !q := by
  have hp := p2_pos (bb + 1)
  have h2 := h.two
  have hx := h.x1
  have hx0 := h.x0
  rw [← h.has]
  unfold hasB
  rw [h.okl, h.okr, Bool.true_and, Bool.true_and]
  rcases Int.lt_or_le x (ba + p2 (bb + 1)) with hl | hl
  · rw [floor hp h.ml hx0 hl]
    simp; omega
  · rw [floor hp h.mr hl (by omega)]
    simp; omega
theorem perm {T1 T2 : Tr} (_h : Hv ba bb x c q) (e1 : (ent 32 0 T1).Perm [(ba, bb + 1)]) (e2 : (ent 32 0 T2).Perm ((ba + p2 (bb + 1), bb + 1) :: ent 32 0 T1)) : (ent 32 0 T2) = [(ba, bb + 1), (ba + p2 (bb + 1), bb + 1)] := by
  refine ent_eq ((e2.trans (e1.cons _)).trans (List.Perm.swap _ _ _)) ?_
  have := p2_pos (bb + 1)
  simp [Ahead]; omega
theorem put1 (h : Hv ba bb x c q) : putC .e ba (bb + 1) = 0 := by simp [putC, h.okl, isIn, ent_e]
theorem put2 {T1 : Tr} (h : Hv ba bb x c q) (e1 : (ent 32 0 T1).Perm [(ba, bb + 1)]) : putC T1 (ba + p2 (bb + 1)) (bb + 1) = 0 := by
  have hn : isIn T1 (ba + p2 (bb + 1)) (bb + 1) = false := by
    rw [isIn_perm e1]
    have := p2_pos (bb + 1)
    simp; omega
  simp [putC, h.okr, hn]
theorem best {T : Tr} (h : Hv ba bb x c q) (e : ent 32 0 T = [(ba, bb + 1), (ba + p2 (bb + 1), bb + 1)]) : lst (ovl x 32 32 0 T) = (if q = true then (ba + p2 (bb + 1), bb + 1) else (ba, bb + 1)) ∧ anyOv T x 32 = true := by
  have h1 : overB ba (bb + 1) x 32 = !q := by rw [over_has h.okl]; exact h.hasl
  have h2 : overB (ba + p2 (bb + 1)) (bb + 1) x 32 = q := by rw [over_has h.okr]; exact h.has
  unfold anyOv ovl
  rw [e]
  cases q <;> simp [h1, h2, lst]
theorem whole {T : Tr} (h : Hv ba bb x c q) (e : ent 32 0 T = [(ba, bb + 1), (ba + p2 (bb + 1), bb + 1)]) : anyOv T ba bb = true := by
  rw [any_iff]
  refine ⟨(ba, bb + 1), by rw [e]; simp, over_iff.2 (.inl (within_iff.2 ⟨h.okl, h.bok, ?_, by show bb ≤ bb + 1; omega⟩))⟩
  have := h.mb
  show ba - ba % p2 bb = ba
  omega
theorem beside {T : Tr} (h : Hv ba bb x c q) (e : ent 32 0 T = [(ba, bb + 1), (ba + p2 (bb + 1), bb + 1)]) : anyOv T c bb = false := by
  rw [← Bool.not_eq_true, any_iff]
  rintro ⟨y, hy, hov⟩
  have hp := p2_pos (bb + 1)
  have h2 := h.two
  have hfl : y.1 - y.1 % p2 bb = ba ∧ y.2 = bb + 1 := by
    rw [e] at hy
    simp only [List.mem_cons, List.not_mem_nil, or_false] at hy
    rcases hy with rfl | rfl
    · exact ⟨floor (p2_pos bb) h.mb (Int.le_refl _) (by have := p2_pos bb; show ba < ba + p2 bb; omega), rfl⟩
    · exact ⟨floor (p2_pos bb) h.mb (by show ba ≤ ba + p2 (bb + 1); omega) (by show ba + p2 (bb + 1) < ba + p2 bb; omega), rfl⟩
  rcases over_iff.1 hov with hv | hv
  · obtain ⟨_, _, h3, _⟩ := within_iff.1 hv
    exact h.ne (h3.symm.trans hfl.1)
  · obtain ⟨_, _, _, h4⟩ := within_iff.1 hv
    have := hfl.2
    omega
theorem off {T : Tr} (_h : Hv ba bb x c q) (e : ent 32 0 T = [(ba, bb + 1), (ba + p2 (bb + 1), bb + 1)]) : isIn T ba bb = false := by
  unfold isIn
  rw [e]
  simp; omega
end Hv
theorem xor_ne (a b : Int) (h1 : 0 ≤ a) (h2 : a < 4294967296) (h3 : 0 < b) (h4 : b < 4294967296) : bits .xor .u32 a b ≠ a := by
  rw [u32_xor a b h1 h2 (by omega) h4]
  intro h
  have e : a.toNat ^^^ b.toNat = a.toNat := by omega
  have e2 : a.toNat ^^^ (a.toNat ^^^ b.toNat) = 0 := by rw [e]; simp
  rw [← Nat.xor_assoc, Nat.xor_self, Nat.zero_xor] at e2
  omega
end Go.Proofs.Ytbfkpapankgndaa
