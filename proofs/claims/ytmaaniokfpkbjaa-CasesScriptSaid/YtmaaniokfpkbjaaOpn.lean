/-
  The contracts of cases.Open, of cases.quiet, and of the statements' own open and quiet. Conditions: the statements' own quiet is asked at ticks that may be.
-/
import Derived.BigGuard
import Derived.Test.YtmaaniokfpkbjaaVar
set_option linter.unusedSimpArgs false
set_option linter.unusedVariables false
namespace Go.Proofs.Ytmaaniokfpkbjaa
open Go.RowKit

/-- Whether a case goes on. -/
def opB (x : Ca) : Bool := (x.g == 0) || (x.g == 1)
/-- Whether a case keeps its address quiet. -/
def qtB (q : Int) (x : Ca) (now : Int) : Bool := (x.g == 2) && wi now x.d q

set_option maxRecDepth 100000 in
set_option maxHeartbeats 4000000 in
theorem open_any (x : Ca) (w : World) : Calls Try.prog 19 #[cav x] w fun e w' => e = .returned (.bool (opB x)) ∧ Below w.heap.size w w' := by
  obtain ⟨-, -, -, k3⟩ := ca_box w x
  have HB := Lib.hid (show Below w.heap.size w (w.alloc (Cax x)) from (Below.refl _ w).alloc (Nat.le_refl _) _)
  have HO := Lib.hid (show opB x = ((x.g == 0) || (x.g == 1)) from rfl)
  unfold cav Cax at *
  cases h0 : (x.g == 0)
  · have H0 := Lib.hid h0
    go_enter Try.func19, Try.ntmps19
    go_wp2_with fail
    go_ret
    exact ⟨ret_bool (by rw [HO.out, H0.out]; simp), HB.out⟩
  · have H0 := Lib.hid h0
    go_enter Try.func19, Try.ntmps19
    go_wp2_with fail
    go_ret
    exact ⟨ret_bool (by rw [HO.out, H0.out]; simp), HB.out⟩
set_option maxRecDepth 100000 in
set_option maxHeartbeats 4000000 in
theorem lopen_any (x : Ca) (w : World) : Calls Try.prog 20 #[cav x] w fun e w' => e = .returned (.bool (opB x)) ∧ Below w.heap.size w w' := by
  obtain ⟨-, -, -, k3⟩ := ca_box w x
  have HB := Lib.hid (show Below w.heap.size w (w.alloc (Cax x)) from (Below.refl _ w).alloc (Nat.le_refl _) _)
  have HO := Lib.hid (show opB x = ((x.g == 0) || (x.g == 1)) from rfl)
  unfold cav Cax at *
  cases h0 : (x.g == 0)
  · have H0 := Lib.hid h0
    go_enter Try.func20, Try.ntmps20
    go_wp2_with fail
    go_ret
    exact ⟨ret_bool (by rw [HO.out, H0.out]; simp), HB.out⟩
  · have H0 := Lib.hid h0
    go_enter Try.func20, Try.ntmps20
    go_wp2_with fail
    go_ret
    exact ⟨ret_bool (by rw [HO.out, H0.out]; simp), HB.out⟩
set_option maxRecDepth 100000 in
set_option maxHeartbeats 4000000 in
theorem quiet_any (c : Cf) (x : Ca) (now : Int) (w : World) : Calls Try.prog 39 #[cfv c, cav x, .int .i64 now] w fun e w' => e = .returned (.bool (qtB c.i x now)) ∧ Below w.heap.size w w' := by
  have HB := Lib.hid (show Below w.heap.size w ((w.alloc (Cfx c)).alloc (Cax x)) from ((Below.refl _ w).alloc (Nat.le_refl _) _).alloc (by simp) _)
  have C1 := Lib.hid (show Cm ((w.alloc (Cfx c)).alloc (Cax x)) w.heap.size c from (cm_box w c).below ((Below.refl _ _).alloc (Nat.le_refl _) _))
  have Q1 := Lib.hid (show Qb ((w.alloc (Cfx c)).alloc (Cax x)) (w.heap.size + 1) x by have := qb_box (w.alloc (Cfx c)) x; simpa using this)
  have HW := Lib.hid fun W => within_any now x.d c.i W
  have HO := Lib.hid (show qtB c.i x now = ((x.g == 2) && wi now x.d c.i) from rfl)
  unfold cav Cax cfv Cfx at *
  cases h0 : (x.g == 2)
  · have H0 := Lib.hid h0
    go_enter Try.func39, Try.ntmps39
    go_wp2_with fail
    go_ret
    exact ⟨ret_bool (by rw [HO.out, H0.out]; rfl), HB.out⟩
  · have H0 := Lib.hid h0
    go_enter Try.func39, Try.ntmps39
    go_upto_region 1 with fail
    have hsz : w.heap.size + 1 < ((w.alloc (.cells #[.int .i64 c.a, .int .i64 c.b, .int .i64 c.c, .int .i64 c.d, .int .i64 c.e, .int .i64 c.f, .int .i64 c.g, .int .i64 c.h, .int .i64 c.i] 27)).alloc (.cells #[.int .u32 x.a, .int .i64 x.r, .int .i64 x.d, .int .i64 x.g] 37)).heap.size := by simp
    generalize (w.alloc (.cells #[.int .i64 c.a, .int .i64 c.b, .int .i64 c.c, .int .i64 c.d, .int .i64 c.e, .int .i64 c.f, .int .i64 c.g, .int .i64 c.h, .int .i64 c.i] 27)).alloc (.cells #[.int .u32 x.a, .int .i64 x.r, .int .i64 x.d, .int .i64 x.g] 37) = W at *
    obtain ⟨q0, q1, q2, q3⟩ := Q1.out.c
    have c8 := C1.out.c8
    go_wp2_with fail
    refine (HW.out _).mono ?_
    rintro e w1 ⟨rfl, rfl⟩
    go_wp2_with fail
    go_ret
    exact ⟨ret_bool (by rw [HO.out, H0.out]; simp), HB.out⟩
theorem qt_eq (q : Int) (x : Ca) (now : Int) (hd0 : 0 ≤ x.d) (hd1 : x.d ≤ 1099511627776) (hn0 : 0 ≤ now) (hn1 : now ≤ 1099511627776) : qtB q x now = ((x.g == 2) && (decide (x.d ≤ now) && decide (now - x.d < q))) := by
  unfold qtB wi si
  rw [cl_in hd0 hd1, cl_in hn0 hn1]
  congr 2
  exact decide_eq_decide.2 ⟨fun h => by omega, fun h => by omega⟩
set_option maxRecDepth 100000 in
set_option maxHeartbeats 4000000 in
theorem lquiet_any (c : Cf) (x : Ca) (now : Int) (w : World) (hd0 : 0 ≤ x.d) (hd1 : x.d ≤ 1099511627776) (hn0 : 0 ≤ now) (hn1 : now ≤ 1099511627776) : Calls Try.prog 31 #[cfv c, cav x, .int .i64 now] w fun e w' => e = .returned (.bool (qtB c.i x now)) ∧ Below w.heap.size w w' := by
  have HB := Lib.hid (show Below w.heap.size w ((w.alloc (Cfx c)).alloc (Cax x)) from ((Below.refl _ w).alloc (Nat.le_refl _) _).alloc (by simp) _)
  have C1 := Lib.hid (show Cm ((w.alloc (Cfx c)).alloc (Cax x)) w.heap.size c from (cm_box w c).below ((Below.refl _ _).alloc (Nat.le_refl _) _))
  have Q1 := Lib.hid (show Qb ((w.alloc (Cfx c)).alloc (Cax x)) (w.heap.size + 1) x by have := qb_box (w.alloc (Cfx c)) x; simpa using this)
  have HO := Lib.hid (qt_eq c.i x now hd0 hd1 hn0 hn1)
  unfold cav Cax cfv Cfx at *
  cases h0 : (x.g == 2)
  · have H0 := Lib.hid h0
    go_enter Try.func31, Try.ntmps31
    go_wp2_with fail
    go_ret
    exact ⟨ret_bool (by rw [HO.out, H0.out]; rfl), HB.out⟩
  · have H0 := Lib.hid h0
    go_enter Try.func31, Try.ntmps31
    go_upto_region 1 with fail
    have hsz : w.heap.size + 1 < ((w.alloc (.cells #[.int .i64 c.a, .int .i64 c.b, .int .i64 c.c, .int .i64 c.d, .int .i64 c.e, .int .i64 c.f, .int .i64 c.g, .int .i64 c.h, .int .i64 c.i] 27)).alloc (.cells #[.int .u32 x.a, .int .i64 x.r, .int .i64 x.d, .int .i64 x.g] 37)).heap.size := by simp
    generalize (w.alloc (.cells #[.int .i64 c.a, .int .i64 c.b, .int .i64 c.c, .int .i64 c.d, .int .i64 c.e, .int .i64 c.f, .int .i64 c.g, .int .i64 c.h, .int .i64 c.i] 27)).alloc (.cells #[.int .u32 x.a, .int .i64 x.r, .int .i64 x.d, .int .i64 x.g] 37) = W at *
    obtain ⟨q0, q1, q2, q3⟩ := Q1.out.c
    have c8 := C1.out.c8
    by_cases h1 : x.d ≤ now
    · go_wp2_with fail
      go_ret
      exact ⟨ret_bool (by rw [HO.out, H0.out]; simp [h1]), HB.out⟩
    · have h1' : decide (x.d ≤ now) = false := decide_eq_false h1
      have H1 := Lib.hid h1'
      go_wp2_with fail
      go_ret
      exact ⟨ret_bool (by rw [HO.out, H0.out, H1.out]; rfl), HB.out⟩
end Go.Proofs.Ytmaaniokfpkbjaa
