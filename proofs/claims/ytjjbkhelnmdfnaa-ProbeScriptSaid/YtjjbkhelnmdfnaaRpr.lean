/-
  The contract of probe.rightProbe. No condition.
-/
import Derived.BigGuard
import Derived.Test.YtjjbkhelnmdfnaaAny
set_option linter.unusedSimpArgs false
set_option linter.unusedVariables false
namespace Go.Proofs.Ytjjbkhelnmdfnaa
open Go.RowKit

/-- Whether a question is right, alone. -/
def rqB (x : Pr) : Bool := decide (x.i = x.a % 65536) && decide (0 ≤ x.s) && decide (x.s ≤ 65535) && decide (x.t = cl x.t) && decide (0 ≤ x.n) && decide (x.n ≤ 8)

set_option maxRecDepth 100000 in
set_option maxHeartbeats 8000000 in
theorem rightProbe_any (x : Pr) (w : World) :
    Calls Try.prog 28 #[prv x] w fun e w' => e = .returned (.bool (rqB x)) ∧ Below w.heap.size w w' := by
  obtain ⟨a, i, s, t, n⟩ := x
  obtain ⟨k0, k1, k2, k3, k4⟩ := pr_box w ⟨a, i, s, t, n⟩
  have HB := Lib.hid (show Below w.heap.size w (w.alloc (Prx ⟨a, i, s, t, n⟩)) from (Below.refl _ w).alloc (Nat.le_refl _) _)
  have hs : w.heap.size < (w.alloc (Prx ⟨a, i, s, t, n⟩)).heap.size := by simp
  have HRQ := Lib.hid (show rqB ⟨a, i, s, t, n⟩ = (decide (i = a % 65536) && decide (0 ≤ s) && decide (s ≤ 65535) && decide (t = cl t) && decide (0 ≤ n) && decide (n ≤ 8)) from rfl)
  unfold prv Prx at *
  dsimp only at *
  go_enter Try.func28, Try.ntmps28
  go_wp2_with fail
  generalize w.alloc (.cells #[.int .u32 a, .int .i64 i, .int .i64 s, .int .i64 t, .int .i64 n] 37) = W at *
  have r0 := cell_regrown k0
  have r1 := cell_regrown k1
  have r2 := cell_regrown k2
  have r3 := cell_regrown k3
  have r4 := cell_regrown k4
  clear k0 k1 k2 k3 k4
  have HC := Lib.hid fun d' os => Calls.regrown_of (d := d') (os := os) ((clamp_any t (Sort.grow (redrawn W d') os)).mono fun _ _ ⟨he, hw⟩ => ⟨he, by rw [hw]; exact Below.refl _ _⟩)
  have HI := Lib.hid fun d' os => Calls.regrown_of (d := d') (os := os) ((idOf_any a (Sort.grow (redrawn W d') os)).mono fun _ _ ⟨he, hw⟩ => ⟨he, by rw [hw]; exact Below.refl _ _⟩)
  generalize a % 65536 = C at *
  generalize cl t = D at *
  by_cases h1 : i = C
  · have e0 : (i == C) = true := by simpa using h1
    have H0 := Lib.hid h1
    clear h1
    by_cases h2 : 0 ≤ s
    · by_cases h3 : s ≤ 65535
      · by_cases h4 : t = D
        · have e3 : (t == D) = true := by simpa using h4
          have H3 := Lib.hid h4
          clear h4
          by_cases h5 : 0 ≤ n
          · by_cases h6 : n ≤ 8
            · have HF := Lib.hid (show rqB ⟨a, i, s, t, n⟩ = true by rw [HRQ.out]; simp [H0.out, h2, h3, H3.out, h5, h6])
              refine wp_region_quiet_below (by kernel_rfl) (by kernel_rfl) ?_
              repeat (go_big_quiet_step (first | (go_at_call 27; exact HI.out _ _) | (go_at_call 23; exact HC.out _ _)))
              refine wpQuiet_nil ?_
              intro _ hw'
              obtain ⟨⟨dq, osq⟩, hw''⟩ := hw'
              subst hw''
              go_wp2
              go_ret
              exact ⟨by rw [HF.out]; rfl, HB.out.trans ((below_regrown _ dq osq).mono HB.out.size)⟩
            · have h6' : decide (n ≤ 8) = false := decide_eq_false h6
              have HF := Lib.hid (show rqB ⟨a, i, s, t, n⟩ = false by rw [HRQ.out]; simp [h6])
              refine wp_region_quiet_below (by kernel_rfl) (by kernel_rfl) ?_
              repeat (go_big_quiet_step (first | (go_at_call 27; exact HI.out _ _) | (go_at_call 23; exact HC.out _ _)))
              refine wpQuiet_nil ?_
              intro _ hw'
              obtain ⟨⟨dq, osq⟩, hw''⟩ := hw'
              subst hw''
              go_wp2
              go_ret
              exact ⟨by rw [HF.out]; rfl, HB.out.trans ((below_regrown _ dq osq).mono HB.out.size)⟩
          · have h5' : decide (0 ≤ n) = false := decide_eq_false h5
            have HF := Lib.hid (show rqB ⟨a, i, s, t, n⟩ = false by rw [HRQ.out]; simp [h5])
            refine wp_region_quiet_below (by kernel_rfl) (by kernel_rfl) ?_
            repeat (go_big_quiet_step (first | (go_at_call 27; exact HI.out _ _) | (go_at_call 23; exact HC.out _ _)))
            refine wpQuiet_nil ?_
            intro _ hw'
            obtain ⟨⟨dq, osq⟩, hw''⟩ := hw'
            subst hw''
            go_wp2
            go_ret
            exact ⟨by rw [HF.out]; rfl, HB.out.trans ((below_regrown _ dq osq).mono HB.out.size)⟩
        · have e3 : (t == D) = false := by simpa using h4
          have HF := Lib.hid (show rqB ⟨a, i, s, t, n⟩ = false by rw [HRQ.out]; simp [h4])
          refine wp_region_quiet_below (by kernel_rfl) (by kernel_rfl) ?_
          repeat (go_big_quiet_step (first | (go_at_call 27; exact HI.out _ _) | (go_at_call 23; exact HC.out _ _)))
          refine wpQuiet_nil ?_
          intro _ hw'
          obtain ⟨⟨dq, osq⟩, hw''⟩ := hw'
          subst hw''
          go_wp2
          go_ret
          exact ⟨by rw [HF.out]; rfl, HB.out.trans ((below_regrown _ dq osq).mono HB.out.size)⟩
      · have h3' : decide (s ≤ 65535) = false := decide_eq_false h3
        have HF := Lib.hid (show rqB ⟨a, i, s, t, n⟩ = false by rw [HRQ.out]; simp [h3])
        refine wp_region_quiet_below (by kernel_rfl) (by kernel_rfl) ?_
        repeat (go_big_quiet_step (first | (go_at_call 27; exact HI.out _ _) | (go_at_call 23; exact HC.out _ _)))
        refine wpQuiet_nil ?_
        intro _ hw'
        obtain ⟨⟨dq, osq⟩, hw''⟩ := hw'
        subst hw''
        go_wp2
        go_ret
        exact ⟨by rw [HF.out]; rfl, HB.out.trans ((below_regrown _ dq osq).mono HB.out.size)⟩
    · have h2' : decide (0 ≤ s) = false := decide_eq_false h2
      have HF := Lib.hid (show rqB ⟨a, i, s, t, n⟩ = false by rw [HRQ.out]; simp [h2])
      refine wp_region_quiet_below (by kernel_rfl) (by kernel_rfl) ?_
      repeat (go_big_quiet_step (first | (go_at_call 27; exact HI.out _ _) | (go_at_call 23; exact HC.out _ _)))
      refine wpQuiet_nil ?_
      intro _ hw'
      obtain ⟨⟨dq, osq⟩, hw''⟩ := hw'
      subst hw''
      go_wp2
      go_ret
      exact ⟨by rw [HF.out]; rfl, HB.out.trans ((below_regrown _ dq osq).mono HB.out.size)⟩
  · have e0 : (i == C) = false := by simpa using h1
    have HF := Lib.hid (show rqB ⟨a, i, s, t, n⟩ = false by rw [HRQ.out]; simp [h1])
    refine wp_region_quiet_below (by kernel_rfl) (by kernel_rfl) ?_
    repeat (go_big_quiet_step (first | (go_at_call 27; exact HI.out _ _) | (go_at_call 23; exact HC.out _ _)))
    refine wpQuiet_nil ?_
    intro _ hw'
    obtain ⟨⟨dq, osq⟩, hw''⟩ := hw'
    subst hw''
    go_wp2
    go_ret
    exact ⟨by rw [HF.out]; rfl, HB.out.trans ((below_regrown _ dq osq).mono HB.out.size)⟩
end Go.Proofs.Ytjjbkhelnmdfnaa
