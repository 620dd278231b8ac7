/-
  The contract of the statements' own examples. No condition.
-/
import Derived.BigGuard
import Derived.Test.YtmaaniokfpkbjaaSem
set_option linter.unusedSimpArgs false
set_option linter.unusedVariables false
namespace Go.Proofs.Ytmaaniokfpkbjaa
open Go.RowKit

def c9 : Cf := ⟨0, 0, 0, 0, 0, 0, 0, 9, 9⟩
def k1 : Ca := ⟨5, 2, 0, 0⟩
def k2 : Ca := ⟨5, 2, 3, 2⟩
theorem awk_1 : rsO 9 2 5 [] = ([k1], 0) := by decide
theorem awk_2 : stO (fun g => g == 0) 2 3 5 [k1] = ([k2], 0) := by decide
theorem awk_3 : rsO 9 4 5 [k2] = ([], 8) := by decide
theorem awk_4 : rsO 9 12 5 [k2] = ([k2, ⟨5, 12, 0, 0⟩], 0) := by decide
theorem awk_r : rgB [k2] = true := by decide

set_option maxRecDepth 100000 in
set_option maxHeartbeats 8000000 in
theorem awake_any (w : World) : Calls Try.prog 10 #[] w fun e w' => e = .returned (.bool true) ∧ Below w.heap.size w w' := by
  have H1 := Lib.hid fun W => raise_any c9 2 5 none [] 0 W (Rw.nil W none) (by simp) (by simp)
  have H2 := Lib.hid fun A cap W hR hc => reject_any 3 5 A [k1] cap W hR hc (by simp)
  have H3 := Lib.hid fun A cap W hR hc => raise_any c9 4 5 A [k2] cap W hR hc (by simp)
  have H4 := Lib.hid fun A cap W hR hc => raise_any c9 12 5 A [k2] cap W hR hc (by simp)
  have H5 := Lib.hid fun A cap W hR hc => right_row A [k2] cap W hR hc
  rw [show rsO c9.i 2 5 [] = _ from awk_1] at H1
  rw [awk_2] at H2
  rw [show rsO c9.i 4 5 [k2] = _ from awk_3] at H3
  rw [show rsO c9.i 12 5 [k2] = _ from awk_4] at H4
  rw [awk_r] at H5
  simp only [List.length_cons, List.length_nil, Nat.zero_add, Nat.reduceAdd] at H1 H2 H3 H4 H5
  have e1 := Lib.hid (show k2.d = 3 from rfl)
  generalize k1 = p1 at *
  generalize k2 = p2 at *
  have B0 := Lib.hid (show Below w.heap.size w (w.alloc (Cfx c9)) from (Below.refl _ w).alloc (Nat.le_refl _) _)
  have C0 := Lib.hid (cm_box w c9)
  simp only [cfv, Cfx, c9] at H1 H2 H3 H4 B0 C0
  go_enter Try.func10, Try.ntmps10
  go_upto_region 2 with fail
  generalize w.alloc (.cells #[.int .i64 0, .int .i64 0, .int .i64 0, .int .i64 0, .int .i64 0, .int .i64 0, .int .i64 0, .int .i64 9, .int .i64 9] 27) = W0 at *
  go_wp2_with (refine at_load27 (.tmp 1) rfl rfl _ c9 rfl C0.out.at ?_)
  refine (H1.out _).mono ?_
  rintro e w1 ⟨A1, c1, rfl, hc1, hR1, hb⟩
  try dsimp only at hc1 hR1
  try simp only [List.length_cons, List.length_nil, Nat.zero_add, Nat.reduceAdd] at hc1 ⊢
  have B1 := Lib.hid (B0.out.trans (hb.mono B0.out.size))
  have R1 := Lib.hid hR1
  have C1 := Lib.hid (C0.out.below hb)
  have K1 := Lib.hid hc1
  clear hb hR1 hc1 C0
  go_wp2_with fail
  refine (H2.out A1 c1 w1 R1.out K1.out).mono ?_
  rintro e w2 ⟨A2, c2, rfl, hc2, hR2, hb⟩
  try dsimp only at hc2 hR2
  try simp only [List.length_cons, List.length_nil, Nat.zero_add, Nat.reduceAdd] at hc2 ⊢
  have B2 := Lib.hid (B1.out.trans (hb.mono B1.out.size))
  have R2 := Lib.hid hR2
  have C2 := Lib.hid (C1.out.below hb)
  have K2 := Lib.hid hc2
  clear hb hR2 hc2 C1
  go_wp2_with (refine at_load27 (.tmp 1) rfl rfl _ c9 rfl C2.out.at ?_)
  refine (H3.out A2 c2 w2 R2.out K2.out).mono ?_
  rintro e w3 ⟨A3, c3, rfl, -, -, hb⟩
  try simp only [List.length_cons, List.length_nil, Nat.zero_add, Nat.reduceAdd]
  have B3 := Lib.hid (B2.out.trans (hb.mono B2.out.size))
  have R3 := Lib.hid (R2.out.below hb)
  have C3 := Lib.hid (C2.out.below hb)
  clear hb C2
  go_wp2_with (refine at_load27 (.tmp 1) rfl rfl _ c9 rfl C3.out.at ?_)
  refine (H4.out A2 c2 w3 R3.out K2.out).mono ?_
  rintro e w4 ⟨A4, c4, rfl, -, -, hb⟩
  try simp only [List.length_cons, List.length_nil, Nat.zero_add, Nat.reduceAdd]
  have B4 := Lib.hid (B3.out.trans (hb.mono B3.out.size))
  have R4 := Lib.hid (R3.out.below hb)
  clear hb C3
  obtain ⟨y, rfl⟩ := rw_some R4.out (by simp)
  obtain ⟨-, r2, -⟩ := rw_f R4.out (k := 0) (x := p2) rfl
  rw [e1.out] at r2
  rw [show y.add (0 * 4) = y by simp [Addr.add]] at r2
  have hc2' := K2.out
  have hc2'' : 0 < c2 := by omega
  go_wp2_with fail
  refine (H5.out (some y) c2 w4 R4.out K2.out).mono ?_
  rintro e w5 ⟨rfl, hb⟩
  have B5 := Lib.hid (B4.out.trans (hb.mono B4.out.size))
  clear hb
  go_wp2_with fail
  go_ret
  exact ⟨rfl, B5.out⟩
end Go.Proofs.Ytmaaniokfpkbjaa
