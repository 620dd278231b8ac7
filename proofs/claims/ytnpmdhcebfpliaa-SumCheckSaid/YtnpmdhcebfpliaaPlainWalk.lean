/-
  SumWords's and SumCheck's walks: for every row of bytes they return true, and nothing that was in memory is touched. Condition: a row has at most 2^47 bytes.
-/
import Derived.Test.YtnpmdhcebfpliaaFrame
namespace Go.Proofs.Ytnpmdhcebfpliaa
open Go.RowKit

theorem sumCheck_walk (A : Option Addr) (zs : List Nat) (c : Nat) (w : World) (h : Rd w A zs) :
    Calls Try.prog 6 #[.slice A zs.length c] w fun e w' => e = .returned (.bool true) ∧ Below w.heap.size w w' := by
  have AW := Lib.hid (awake_any w)
  have H := Lib.hid h
  clear h
  go_enter Try.func6, Try.ntmps6
  go_wp2_with fail
  refine AW.out.mono ?_
  rintro e w1 ⟨rfl, hb⟩
  have R := Lib.hid (H.out.below hb)
  have B := Lib.hid hb
  clear hb
  go_wp2_with fail
  refine (check_any _ zs _ _ R.out).mono ?_
  rintro e w2 ⟨rfl, rfl⟩
  go_wp2_with fail
  refine (lawCheck_any _ zs _ _ R.out).mono ?_
  rintro e w2 ⟨rfl, rfl⟩
  go_wp2_with fail
  go_ret
  exact ⟨rfl, B.out⟩

theorem sumWords_walk (A : Option Addr) (zs : List Nat) (c : Nat) (w : World) (h : Rd w A zs) :
    Calls Try.prog 3 #[.slice A zs.length c] w fun e w' => e = .returned (.bool true) ∧ Below w.heap.size w w' := by
  have AW := Lib.hid (awake_any w)
  have H := Lib.hid h
  have hw := wd_le zs
  clear h
  go_enter Try.func3, Try.ntmps3
  go_wp2_with fail
  refine AW.out.mono ?_
  rintro e w1 ⟨rfl, hb⟩
  have R := Lib.hid (H.out.below hb)
  have B := Lib.hid hb
  clear hb
  go_wp2_with fail
  refine (words_any _ zs _ _ R.out).mono ?_
  rintro e w2 ⟨rfl, rfl⟩
  go_wp2_with fail
  refine (lawWords_any _ zs _ _ R.out).mono ?_
  rintro e w2 ⟨rfl, rfl⟩
  go_wp2_with fail
  refine (sealed_any _ zs _ _ R.out).mono ?_
  rintro e w2 ⟨rfl, rfl⟩
  go_wp2_with fail
  refine (lawWords_any _ zs _ _ R.out).mono ?_
  rintro e w2 ⟨rfl, rfl⟩
  go_wp2_with fail
  go_ret
  exact ⟨ret_bool (by rw [beq_iff_eq, Bool.eq_iff_iff]; simp; omega), B.out⟩
end Go.Proofs.Ytnpmdhcebfpliaa
