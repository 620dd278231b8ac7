/-
  The contract of the statements' own put. Conditions: at most eight bytes.
-/
import Derived.Test.YtbjlklkmcpnemaaCdV
import Derived.Lib.Strings
set_option linter.unusedSimpArgs false
set_option linter.unusedVariables false
namespace Go.Proofs.Ytbjlklkmcpnemaa
open Go.RowKit

/-- A text of bytes. -/
def st (l : List UInt8) : ByteArray := ⟨l.toArray⟩
theorem st_size (l : List UInt8) : (st l).size = l.length := by
  show l.toArray.size = _
  simp
theorem st_app (a b : List UInt8) : st a ++ st b = st (a ++ b) := by
  apply ByteArray.ext
  rw [ByteArray.data_append]
  simp [st]
theorem run_addS (a b : List UInt8) (W : World) (h : a.length + b.length ≤ 1000000000) : (Op.stringOp .add (st a) (st b)).run Try.prog W = .ok (.string (st (a ++ b))) W := by
  rw [run_string_add_sum (P := Try.prog) W (st a) (st b) (by rw [st_size, st_size]; omega), st_app]
set_option maxRecDepth 100000 in
set_option maxHeartbeats 4000000 in
theorem put_any (n : Int) (s : Nat) (w : World) (hs : s ≤ 8) (h0 : -9223372036854775808 ≤ n) (h1 : n ≤ 9223372036854775807) :
    Calls Try.prog 26 #[.int .i64 n, .int .i64 (s : Int)] w fun e w' => e = .returned (.string (st (nb s n))) ∧ Below w.heap.size w w' := by
  go_enter Try.func26, Try.ntmps26
  go_wp2_with fail
  go_loopw [5, 6] (fun r i wr => ∃ k : Nat, r = .string (st (nh s k n)) ∧ i = .int .i64 ((k : Int) - 1) ∧ k ≤ s ∧ Hid (Below w.heap.size w wr)) (fun _ i _ => (intOf i + 1).toNat)
  case atStart => exact ⟨s, by rw [nh_all]; rfl, by go_num, Nat.le_refl _, Lib.hid (Below.refl _ _)⟩
  case round =>
    obtain ⟨k, rfl, rfl, hk, HB⟩ := hrel
    by_cases hk0 : k = 0
    · subst hk0
      rw [show ((0 : Nat) : Int) - 1 = -1 from rfl, nh_none]
      go_wp2_with fail
      go_ret
      exact ⟨rfl, HB.out⟩
    · obtain ⟨j, rfl⟩ : ∃ j, k = j + 1 := ⟨k - 1, by omega⟩
      rw [show ((j + 1 : Nat) : Int) - 1 = (j : Int) by omega]
      have hj : (j : Int) ≤ 7 := by omega
      have HL := Lib.hid (show nh s j n = nh s (j + 1) n ++ [byt (n / 2 ^ (8 * j))] from nh_step n hk)
      have hl := nh_length n hk
      obtain ⟨L, hL⟩ : ∃ L, nh s (j + 1) n = L := ⟨_, rfl⟩
      rw [hL] at HL hl ⊢
      obtain ⟨u, hu⟩ : ∃ u, byt (n / 2 ^ (8 * j)) = u := ⟨_, rfl⟩
      have hu2 := byt_nat (n / 2 ^ (8 * j))
      rw [hu] at HL hu2
      obtain ⟨S, hS⟩ : ∃ S, st L = S := ⟨_, rfl⟩
      obtain ⟨D, hD⟩ : ∃ D, st [u] = D := ⟨_, rfl⟩
      obtain ⟨E, hE⟩ : ∃ E, st (L ++ [u]) = E := ⟨_, rfl⟩
      have c1 : (convert 37 9 (.slice (some ⟨wr.heap.size, 0, none⟩) 1 1)).run Try.prog (wr.alloc (.cells #[.int .u8 (n / 2 ^ (8 * j) % 256)] 5)) = .ok (.string D) (wr.alloc (.cells #[.int .u8 (n / 2 ^ (8 * j) % 256)] 5)) := by
        rw [← hD]
        exact run_strB _ 1 [u] _ (rw_byte wr _ u hu2)
      have c2 : ∀ W, (Op.stringOp .add S D).run Try.prog W = .ok (.string E) W := fun W => by
        rw [← hS, ← hD, ← hE]
        exact run_addS L [u] W (by simp; omega)
      have HN := Lib.hid (show Below w.heap.size w (wr.alloc (.cells #[.int .u8 (n / 2 ^ (8 * j) % 256)] 5)) from HB.out.alloc HB.out.size _)
      have HE := Lib.hid (show E = st (nh s j n) by rw [← hE, HL.out])
      rw [hS]
      clear hS hD hE hu hL HL hu2
      go_wp2_with fail
      go_roundw
      case rel => exact ⟨j, by rw [HE.out], by go_num, by omega, HN⟩
      case measure => simp [intOf] <;> omega
end Go.Proofs.Ytbjlklkmcpnemaa
