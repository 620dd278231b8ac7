/-
  The contract of cases.rightCase. No condition.
-/
import Derived.BigGuard
import Derived.Test.YtmaaniokfpkbjaaOpn
set_option linter.unusedSimpArgs false
set_option linter.unusedVariables false
namespace Go.Proofs.Ytmaaniokfpkbjaa
open Go.RowKit

/-- Whether a case is right, alone. -/
def rcB (x : Ca) : Bool := decide (0 ≤ x.g) && decide (x.g ≤ 5) && decide (x.r = cl x.r) && decide (x.d = cl x.d) && (if opB x = true then decide (x.d = 0) else decide (x.r ≤ x.d))

set_option maxRecDepth 100000 in
set_option maxHeartbeats 8000000 in
theorem rightCase_any (x : Ca) (w : World) : Calls Try.prog 32 #[cav x] w fun e w' => e = .returned (.bool (rcB x)) ∧ Below w.heap.size w w' := by
  have HO := Lib.hid (open_any x)
  obtain ⟨a, r, d, g⟩ := x
  have HB := Lib.hid (show Below w.heap.size w (w.alloc (Cax ⟨a, r, d, g⟩)) from (Below.refl _ w).alloc (Nat.le_refl _) _)
  have Q1 := Lib.hid (qb_box w ⟨a, r, d, g⟩)
  have hs : w.heap.size < (w.alloc (Cax ⟨a, r, d, g⟩)).heap.size := by simp
  have HRQ := Lib.hid (show rcB ⟨a, r, d, g⟩ = (decide (0 ≤ g) && decide (g ≤ 5) && decide (r = cl r) && decide (d = cl d) && (if opB ⟨a, r, d, g⟩ = true then decide (d = 0) else decide (r ≤ d))) from rfl)
  obtain ⟨ob, hob⟩ : ∃ b, opB ⟨a, r, d, g⟩ = b := ⟨_, rfl⟩
  rw [hob] at HO HRQ
  clear hob
  unfold cav Cax at *
  dsimp only at *
  go_enter Try.func32, Try.ntmps32
  go_wp2_with fail
  generalize w.alloc (.cells #[.int .u32 a, .int .i64 r, .int .i64 d, .int .i64 g] 37) = W at *
  obtain ⟨k0, k1, k2, k3⟩ := Q1.out.c
  dsimp only at k0 k1 k2 k3
  have r0 := cell_regrown k0
  have r1 := cell_regrown k1
  have r2 := cell_regrown k2
  have r3 := cell_regrown k3
  clear k0 k1 k2 k3
  have HC := Lib.hid fun d' os => Calls.regrown_of (d := d') (os := os) ((clamp_any r (Sort.grow (redrawn W d') os)).mono fun _ _ ⟨he, hw⟩ => ⟨he, by rw [hw]; exact Below.refl _ _⟩)
  have HD := Lib.hid fun d' os => Calls.regrown_of (d := d') (os := os) ((clamp_any d (Sort.grow (redrawn W d') os)).mono fun _ _ ⟨he, hw⟩ => ⟨he, by rw [hw]; exact Below.refl _ _⟩)
  generalize cl r = C at *
  generalize cl d = D at *
  by_cases h1 : 0 ≤ g
  · have h1' : decide (g < 0) = false := decide_eq_false (by omega)
    by_cases h2 : g ≤ 5
    · have h2' : decide (5 < g) = false := decide_eq_false (by omega)
      by_cases h3 : r = C
      · have e3 : (r != C) = false := by simpa using h3
        have H3 := Lib.hid h3
        clear h3
        by_cases h4 : d = D
        · have e4 : (d != D) = false := by simpa using h4
          have H4 := Lib.hid h4
          clear h4
          refine wp_region_quiet_below (by kernel_rfl) (by kernel_rfl) ?_
          repeat (go_big_quiet_step (first | (go_at_call 34; (with_reducible exact HC.out _ _)) | (go_at_call 34; (with_reducible exact HD.out _ _))))
          refine wpQuiet_nil ?_
          intro _ hw'
          obtain ⟨⟨dq, osq⟩, hw''⟩ := hw'
          subst hw''
          have BQ := below_regrown W dq osq
          have Q2 := Lib.hid (Q1.out.below BQ)
          have B2 := Lib.hid (HB.out.trans (BQ.mono HB.out.size))
          have hs2 : w.heap.size < (Sort.grow (redrawn W dq) osq).heap.size := Nat.lt_of_lt_of_le hs BQ.size
          clear BQ r0 r1 r2 r3 HC HD
          generalize Sort.grow (redrawn W dq) osq = W2 at *
          go_wp2_with (refine at_load37 (.tmp 1) rfl rfl _ ⟨a, r, d, g⟩ rfl Q2.out.at ?_)
          refine (HO.out _).mono ?_
          rintro e w1 ⟨rfl, hb⟩
          have B3 := Lib.hid (B2.out.trans (hb.mono B2.out.size))
          have Q3 := Lib.hid (Q2.out.below hb)
          have hs3 : w.heap.size < w1.heap.size := Nat.lt_of_lt_of_le hs2 hb.size
          clear hb
          obtain ⟨q0, q1, q2, q3⟩ := Q3.out.c
          dsimp only at q0 q1 q2 q3
          cases ob
          · have HF := Lib.hid (show rcB ⟨a, r, d, g⟩ = decide (r ≤ d) by rw [HRQ.out]; simp [h1, h2, H3.out, H4.out])
            go_wp2_with fail
            go_ret
            exact ⟨ret_bool (by rw [HF.out]), B3.out⟩
          · have HF := Lib.hid (show rcB ⟨a, r, d, g⟩ = (d == 0) by rw [HRQ.out]; simp [h1, h2, H3.out, H4.out]; rfl)
            go_wp2_with fail
            go_ret
            exact ⟨ret_bool (by rw [HF.out]), B3.out⟩
        · have e4 : (d != D) = true := by simpa using h4
          have HF := Lib.hid (show rcB ⟨a, r, d, g⟩ = false by rw [HRQ.out]; simp [h4])
          refine wp_region_quiet_below (by kernel_rfl) (by kernel_rfl) ?_
          repeat (go_big_quiet_step (first | (go_at_call 34; (with_reducible exact HC.out _ _)) | (go_at_call 34; (with_reducible exact HD.out _ _))))
          refine wpQuiet_nil ?_
          intro _ hw'
          obtain ⟨⟨dq, osq⟩, hw''⟩ := hw'
          subst hw''
          go_wp2_with fail
          go_ret
          exact ⟨by rw [HF.out]; rfl, HB.out.trans ((below_regrown _ dq osq).mono HB.out.size)⟩
      · have e3 : (r != C) = true := by simpa using h3
        have HF := Lib.hid (show rcB ⟨a, r, d, g⟩ = false by rw [HRQ.out]; simp [h3])
        refine wp_region_quiet_below (by kernel_rfl) (by kernel_rfl) ?_
        repeat (go_big_quiet_step (first | (go_at_call 34; (with_reducible exact HC.out _ _)) | (go_at_call 34; (with_reducible exact HD.out _ _))))
        refine wpQuiet_nil ?_
        intro _ hw'
        obtain ⟨⟨dq, osq⟩, hw''⟩ := hw'
        subst hw''
        go_wp2_with fail
        go_ret
        exact ⟨by rw [HF.out]; rfl, HB.out.trans ((below_regrown _ dq osq).mono HB.out.size)⟩
    · have h2' : 5 < g := by omega
      have HF := Lib.hid (show rcB ⟨a, r, d, g⟩ = false by rw [HRQ.out]; simp [h2])
      refine wp_region_quiet_below (by kernel_rfl) (by kernel_rfl) ?_
      repeat (go_big_quiet_step (first | (go_at_call 34; (with_reducible exact HC.out _ _)) | (go_at_call 34; (with_reducible exact HD.out _ _))))
      refine wpQuiet_nil ?_
      intro _ hw'
      obtain ⟨⟨dq, osq⟩, hw''⟩ := hw'
      subst hw''
      go_wp2_with fail
      go_ret
      exact ⟨by rw [HF.out]; rfl, HB.out.trans ((below_regrown _ dq osq).mono HB.out.size)⟩
  · have h1' : g < 0 := by omega
    have HF := Lib.hid (show rcB ⟨a, r, d, g⟩ = false by rw [HRQ.out]; simp [h1])
    refine wp_region_quiet_below (by kernel_rfl) (by kernel_rfl) ?_
    repeat (go_big_quiet_step (first | (go_at_call 34; (with_reducible exact HC.out _ _)) | (go_at_call 34; (with_reducible exact HD.out _ _))))
    refine wpQuiet_nil ?_
    intro _ hw'
    obtain ⟨⟨dq, osq⟩, hw''⟩ := hw'
    subst hw''
    go_wp2_with fail
    go_ret
    exact ⟨by rw [HF.out]; rfl, HB.out.trans ((below_regrown _ dq osq).mono HB.out.size)⟩
end Go.Proofs.Ytmaaniokfpkbjaa
