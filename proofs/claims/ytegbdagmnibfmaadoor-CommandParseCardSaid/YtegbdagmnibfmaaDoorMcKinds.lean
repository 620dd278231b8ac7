/-
  Contracts of None, Group and Compare (package mac): what each returns, for every number, and that nothing that was in memory has changed.
-/
import Derived.Test.YtegbdagmnibfmaaDoorMcEq
import Derived.Lib.Bytealg
namespace Go.Proofs.YtegbdagmnibfmaaDoor.Mc
open Go.RowKit

theorem none_any (b0 b1 b2 b3 b4 b5 : Int) (w : World) :
    Calls Tryd.prog 18 #[.agg #[.int .u8 b0, .int .u8 b1, .int .u8 b2, .int .u8 b3, .int .u8 b4, .int .u8 b5]] w fun e w' => e = .returned (.bool (eq6 b0 b1 b2 b3 b4 b5 0 0 0 0 0 0)) ∧ Below w.heap.size w w' := by
  have hq := fun W => run_eq6 b0 b1 b2 b3 b4 b5 0 0 0 0 0 0 W
  go_enter Tryd.func18, Tryd.ntmps18
  go_wp2
  go_ret
  exact ⟨rfl, (Below.refl _ _).alloc (Nat.le_refl _) _⟩
theorem and1 (b : Int) (h0 : 0 ≤ b) (h1 : b < 256) : bits .and .u8 b 1 = b % 2 := by
  rw [u8_and b 1 h0 h1 (by omega) (by omega)]
  have h : ∀ m : Fin 256, (m.val &&& 1) = m.val % 2 := by decide +kernel
  have := h ⟨b.toNat, by omega⟩
  simp only at this
  rw [show (1 : Int).toNat = 1 from rfl, this]
  omega
theorem group_any (b0 b1 b2 b3 b4 b5 : Int) (w : World) (h0 : 0 ≤ b0) (h1 : b0 < 256) :
    Calls Tryd.prog 32 #[.agg #[.int .u8 b0, .int .u8 b1, .int .u8 b2, .int .u8 b3, .int .u8 b4, .int .u8 b5]] w fun e w' => e = .returned (.bool (b0 % 2 == 1)) ∧ Below w.heap.size w w' := by
  have H := Lib.hid (and1 b0 h0 h1)
  go_enter Tryd.func32, Tryd.ntmps32
  go_wp2
  go_ret
  exact ⟨by rw [← H.out]; rfl, (Below.refl _ _).alloc (Nat.le_refl _) _⟩

end Go.Proofs.YtegbdagmnibfmaaDoor.Mc
