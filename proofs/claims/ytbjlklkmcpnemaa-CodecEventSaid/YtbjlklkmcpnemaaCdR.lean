/-
  Numbers that bytes make: laws of plain data. No condition.
-/
import Derived.Test.YtbjlklkmcpnemaaCdX
set_option linter.unusedSimpArgs false
set_option linter.unusedVariables false
namespace Go.Proofs.Ytbjlklkmcpnemaa
open Go.RowKit

/-- The number that bytes make. -/
def un : List UInt8 → Nat
  | [] => 0
  | u :: l => u.toNat * 256 ^ l.length + un l
theorem un_snoc (l : List UInt8) (u : UInt8) : un (l ++ [u]) = un l * 256 + u.toNat := by
  induction l with
  | nil => simp [un]
  | cons a l ih =>
    rw [List.cons_append, un, un, ih, List.length_append, List.length_singleton, Nat.pow_succ, Nat.add_mul, ← Nat.mul_assoc]
    omega
theorem un_lt (l : List UInt8) : un l < 256 ^ l.length := by
  induction l with
  | nil => simp [un]
  | cons a l ih =>
    have h := a.toNat_lt
    rw [un, List.length_cons, Nat.pow_succ]
    have : a.toNat * 256 ^ l.length ≤ 255 * 256 ^ l.length := Nat.mul_le_mul_right _ (by omega)
    omega
theorem or_step (U c : Nat) (hU : U < 72057594037927936) (hc : c < 256) : bits .or .i64 (wrap64 ((U : Int) * 256)) (c : Int) = wrap64 (((U * 256 + c : Nat)) : Int) := by
  have e1 : (BitVec.ofInt 64 (wrap64 ((U : Int) * 256))).toNat = 256 * U := by
    rw [BitVec.toNat_ofInt]
    unfold wrap64
    omega
  have e2 : (BitVec.ofInt 64 (c : Int)).toNat = c := by
    rw [BitVec.toNat_ofInt]
    omega
  have e3 : 256 * U ||| c = 256 * U + c := by
    have := Nat.two_pow_add_eq_or_of_lt (i := 8) (b := c) (by omega) U
    rw [show (2 : Nat) ^ 8 = 256 from rfl] at this
    exact this.symm
  show IntKind.i64.wrap ((BitVec.ofInt 64 (wrap64 ((U : Int) * 256)) ||| BitVec.ofInt 64 (c : Int)).toNat : Int) = _
  rw [BitVec.toNat_or, e1, e2, e3]
  rw [show 256 * U + c = U * 256 + c by omega]
  exact IntWalk.i64_left _
/-- The number as it is read: of eight bytes it may be below 0. -/
def vl (l : List UInt8) : Int := wrap64 (un l : Int)
theorem vl_small {l : List UInt8} (h : l.length ≤ 7) : vl l = (un l : Int) ∧ (un l : Int) < 72057594037927936 := by
  have h1 := un_lt l
  have h2 : 256 ^ l.length ≤ 256 ^ 7 := Nat.pow_le_pow_right (by omega) h
  have h3 : un l < 72057594037927936 := by omega
  refine ⟨?_, by omega⟩
  unfold vl wrap64
  omega
theorem vl_nil : vl [] = 0 := by simp [vl, un, wrap64]
end Go.Proofs.Ytbjlklkmcpnemaa
