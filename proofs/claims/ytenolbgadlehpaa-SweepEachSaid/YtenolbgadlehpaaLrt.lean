/-
  The contract of the statements' own 'right'. Conditions: the row lies in memory, and addresses are numbers of 32 bits.
-/
import Derived.Test.YtenolbgadlehpaaLsm
set_option linter.unusedSimpArgs false
set_option linter.unusedVariables false
namespace Go.Proofs.Ytenolbgadlehpaa
open Go.RowKit

/-- Whether a sweep is right, as the statements say it. -/
def lrB (x : Sw) : Bool := okB x.a x.b && decide (24 ≤ x.b) && decide (0 ≤ x.d) && decide (x.d ≤ 1099511627776) && decide (0 ≤ x.n) && decide (x.n < p2 x.b)
/-- Whether one stands behind the other. -/
def lfB (xs : List Sw) (i : Nat) : Bool := decide (i = 0) || match xs[i - 1]?, xs[i]? with
  | some p, some x => decide (p.a < x.a) && decide (p.a + p2 p.b ≤ x.a)
  | _, _ => false
def lk (xs : List Sw) (i : Nat) : Bool := match xs[i]? with
  | some x => lrB x && lfB xs i
  | none => true
def lgB (xs : List Sw) : Bool := (List.range xs.length).all (lk xs) && decide (xs.length ≤ 16)
theorem lk_all (xs : List Sw) (k : Nat) : (List.range (k + 1)).all (lk xs) = ((List.range k).all (lk xs) && lk xs k) := by
  rw [List.range_succ, List.all_append]; simp
theorem lgB_no {xs : List Sw} {k : Nat} (hk : k < xs.length) (h : lk xs k = false) : lgB xs = false := by
  unfold lgB
  have : (List.range xs.length).all (lk xs) = false := by
    rw [Bool.eq_false_iff]
    intro hc
    rw [List.all_eq_true] at hc
    have := hc k (List.mem_range.2 hk)
    rw [h] at this; cases this
  rw [this, Bool.false_and]
theorem lk_get {xs : List Sw} {k j : Nat} (h : (List.range k).all (lk xs) = true) (hj : j < k) {p : Sw} (hp : xs[j]? = some p) : lrB p = true := by
  rw [List.all_eq_true] at h
  have := h j (List.mem_range.2 hj)
  unfold lk at this
  rw [hp] at this
  simp only [Bool.and_eq_true] at this
  exact this.1
theorem lrB_out {x : Sw} (h : lrB x = true) : okB x.a x.b = true ∧ 24 ≤ x.b ∧ x.b ≤ 32 ∧ 0 ≤ x.d ∧ x.d ≤ 1099511627776 ∧ 0 ≤ x.n ∧ x.n < p2 x.b := by
  unfold lrB at h
  simp only [Bool.and_eq_true, decide_eq_true_eq] at h
  obtain ⟨⟨⟨⟨⟨h1, h2⟩, h3⟩, h4⟩, h5⟩, h6⟩ := h
  exact ⟨h1, h2, (ok_out h1).2.1, h3, h4, h5, h6⟩

set_option maxRecDepth 100000 in
set_option maxHeartbeats 8000000 in
theorem lright_any (A : Option Addr) (xs : List Sw) (cap : Nat) (w : World) (h : Rw eW w A xs) (hu : Au xs) :
    Calls Try.prog 18 #[.slice A xs.length cap] w fun e w' => e = .returned (.bool (lgB xs)) ∧ Below w.heap.size w w' := by
  have hln := h.1
  have R := Lib.hid h
  have HU := Lib.hid hu
  have HNO := Lib.hid (fun k => @lgB_no xs k)
  have HRG := Lib.hid (show lgB xs = _ by unfold lgB; rfl)
  clear h hu
  obtain ⟨L, hL⟩ : ∃ L, xs.length = L := ⟨_, rfl⟩
  have HL := Lib.hid hL
  rw [hL] at hln HRG HNO ⊢
  clear hL
  go_enter Try.func18, Try.ntmps18
  go_wp2_with fail
  go_loopw [7] (fun i wr => ∃ k : Nat, i = .int .i64 k ∧ k ≤ L ∧ Hid (Below w.heap.size w wr) ∧ Hid ((List.range k).all (lk xs) = true)) (fun i _ => L - (intOf i).toNat)
  case atStart => exact ⟨0, rfl, by omega, Lib.hid (Below.refl _ _), Lib.hid rfl⟩
  case round =>
    obtain ⟨k, rfl, hk, HW, HF⟩ := hrel
    by_cases hkL : k < L
    · obtain ⟨x, hx⟩ := at_of_lt (xs := xs) (by rw [HL.out]; exact hkL)
      obtain ⟨y, rfl⟩ := rw_some R.out (by rw [HL.out]; omega)
      have RW := Lib.hid (R.out.below HW.out)
      have hat := RW.out.at hx
      obtain ⟨u0, u1⟩ := HU.out.get hx
      have HX := Lib.hid hx
      obtain ⟨s0, s1, s2, s3⟩ := sw_box wr x
      have hsz : wr.heap.size < (wr.alloc (Swx x)).heap.size := by simp
      have B1 := Lib.hid (show Below w.heap.size w (wr.alloc (Swx x)) from HW.out.alloc HW.out.size _)
      have R1 := Lib.hid (RW.out.below ((Below.refl _ wr).alloc (Nat.le_refl _) (Swx x)))
      unfold Swx at *
      go_wp2_with (refine at_load39 (.tmp 10) rfl rfl (y.add (k * 4)) x rfl hat ?_)
      generalize wr.alloc (.cells #[.int .u32 x.a, .int .i64 x.b, .int .i64 x.d, .int .i64 x.n] 39) = W at *
      have HKK := Lib.hid (show lk xs k = (lrB x && lfB xs k) by unfold lk; rw [hx])
      clear hat hx
      go_cut [46] from 12 to 46 (fun v wc => v = .bool (!lrB x) ∧ Hid (Below W.heap.size W wc))
      case first =>
        have r0 := cell_regrown s0
        have r1 := cell_regrown s1
        have r2 := cell_regrown s2
        have r3 := cell_regrown s3
        obtain ⟨a, b, d, n⟩ := x
        dsimp only at r0 r1 r2 r3 u0 u1 ⊢
        clear s0 s1 s2 s3
        have HLR := Lib.hid (show lrB ⟨a, b, d, n⟩ = (okB a b && decide (24 ≤ b) && decide (0 ≤ d) && decide (d ≤ 1099511627776) && decide (0 ≤ n) && decide (n < p2 b)) from rfl)
        cases hok : okB a b
        · have HR := Lib.hid fun d' os => Calls.regrown_of (d := d') (os := os) (right_no a b (Sort.grow (redrawn W d') os) u0 u1 hok)
          skip
          refine wp_region_quiet_below (by kernel_rfl) (by kernel_rfl) ?_
          repeat (go_big_quiet_step ((go_at_call 21; exact HR.out _ _)))
          refine wpQuiet_nil ?_
          intro _ hw'
          obtain ⟨⟨dq, osq⟩, hw''⟩ := hw'
          subst hw''
          go_wp2_with fail
          go_meet
          exact ⟨by rw [HLR.out]; simp [hok], Lib.hid (below_regrown _ dq osq)⟩
        · by_cases h24 : 24 ≤ b
          · have h24' : decide (b < 24) = false := decide_eq_false (by omega)
            by_cases hd0 : 0 ≤ d
            · have hd0' : decide (d < 0) = false := decide_eq_false (by omega)
              by_cases hd1 : d ≤ 1099511627776
              · have hd1' : decide (1099511627776 < d) = false := decide_eq_false (by omega)
                by_cases hn0 : 0 ≤ n
                · have hn0' : decide (n < 0) = false := decide_eq_false (by omega)
                  obtain ⟨hb0, hb1, -⟩ := ok_out hok
                  have hp2 := wrap_p2 b (by omega)
                  by_cases hn1 : n < p2 b
                  · have hn1' : decide (p2 b ≤ n) = false := decide_eq_false (by omega)
                    have HR := Lib.hid fun d' os => Calls.regrown_of (d := d') (os := os) (right_yes a b (Sort.grow (redrawn W d') os) u0 u1 hok)
                    skip
                    refine wp_region_quiet_below (by kernel_rfl) (by kernel_rfl) ?_
                    repeat (go_big_quiet_step ((go_at_call 21; exact HR.out _ _)))
                    refine wpQuiet_nil ?_
                    intro _ hw'
                    obtain ⟨⟨dq, osq⟩, hw''⟩ := hw'
                    subst hw''
                    go_wp2_with fail
                    go_meet
                    exact ⟨by rw [HLR.out]; simp [hok, h24, hd0, hd1, hn0, hn1], Lib.hid (below_regrown _ dq osq)⟩
                  · have hn1' : p2 b ≤ n := by omega
                    have HR := Lib.hid fun d' os => Calls.regrown_of (d := d') (os := os) (right_yes a b (Sort.grow (redrawn W d') os) u0 u1 hok)
                    skip
                    refine wp_region_quiet_below (by kernel_rfl) (by kernel_rfl) ?_
                    repeat (go_big_quiet_step ((go_at_call 21; exact HR.out _ _)))
                    refine wpQuiet_nil ?_
                    intro _ hw'
                    obtain ⟨⟨dq, osq⟩, hw''⟩ := hw'
                    subst hw''
                    go_wp2_with fail
                    go_meet
                    exact ⟨by rw [HLR.out]; simp [hok, show ¬ n < p2 b by omega], Lib.hid (below_regrown _ dq osq)⟩
                · have hn0' : n < 0 := by omega
                  have HR := Lib.hid fun d' os => Calls.regrown_of (d := d') (os := os) (right_yes a b (Sort.grow (redrawn W d') os) u0 u1 hok)
                  skip
                  refine wp_region_quiet_below (by kernel_rfl) (by kernel_rfl) ?_
                  repeat (go_big_quiet_step ((go_at_call 21; exact HR.out _ _)))
                  refine wpQuiet_nil ?_
                  intro _ hw'
                  obtain ⟨⟨dq, osq⟩, hw''⟩ := hw'
                  subst hw''
                  go_wp2_with fail
                  go_meet
                  exact ⟨by rw [HLR.out]; simp [hok, hn0], Lib.hid (below_regrown _ dq osq)⟩
              · have hd1' : 1099511627776 < d := by omega
                have HR := Lib.hid fun d' os => Calls.regrown_of (d := d') (os := os) (right_yes a b (Sort.grow (redrawn W d') os) u0 u1 hok)
                skip
                refine wp_region_quiet_below (by kernel_rfl) (by kernel_rfl) ?_
                repeat (go_big_quiet_step ((go_at_call 21; exact HR.out _ _)))
                refine wpQuiet_nil ?_
                intro _ hw'
                obtain ⟨⟨dq, osq⟩, hw''⟩ := hw'
                subst hw''
                go_wp2_with fail
                go_meet
                exact ⟨by rw [HLR.out]; simp [hok, hd1], Lib.hid (below_regrown _ dq osq)⟩
            · have hd0' : d < 0 := by omega
              have HR := Lib.hid fun d' os => Calls.regrown_of (d := d') (os := os) (right_yes a b (Sort.grow (redrawn W d') os) u0 u1 hok)
              skip
              refine wp_region_quiet_below (by kernel_rfl) (by kernel_rfl) ?_
              repeat (go_big_quiet_step ((go_at_call 21; exact HR.out _ _)))
              refine wpQuiet_nil ?_
              intro _ hw'
              obtain ⟨⟨dq, osq⟩, hw''⟩ := hw'
              subst hw''
              go_wp2_with fail
              go_meet
              exact ⟨by rw [HLR.out]; simp [hok, hd0], Lib.hid (below_regrown _ dq osq)⟩
          · have h24' : b < 24 := by omega
            have HR := Lib.hid fun d' os => Calls.regrown_of (d := d') (os := os) (right_yes a b (Sort.grow (redrawn W d') os) u0 u1 hok)
            skip
            refine wp_region_quiet_below (by kernel_rfl) (by kernel_rfl) ?_
            repeat (go_big_quiet_step ((go_at_call 21; exact HR.out _ _)))
            refine wpQuiet_nil ?_
            intro _ hw'
            obtain ⟨⟨dq, osq⟩, hw''⟩ := hw'
            subst hw''
            go_wp2_with fail
            go_meet
            exact ⟨by rw [HLR.out]; simp [hok, h24], Lib.hid (below_regrown _ dq osq)⟩
      case rest =>
        obtain ⟨rfl, HC⟩ := hcut
        have C1 := Lib.hid (B1.out.trans (HC.out.mono B1.out.size))
        have RC := Lib.hid (R1.out.below HC.out)
        have c0 : wc.cell? ⟨wr.heap.size, 0, none⟩ = some (.int .u32 x.a) := by rw [HC.out.cell (p := ⟨wr.heap.size, 0, none⟩) hsz]; exact s0
        have c1 : wc.cell? ⟨wr.heap.size, 1, none⟩ = some (.int .i64 x.b) := by rw [HC.out.cell (p := ⟨wr.heap.size, 1, none⟩) hsz]; exact s1
        clear s0 s1 s2 s3 HC
        cases hlr : lrB x
        · have HKF := Lib.hid (show lk xs k = false by rw [HKK.out, hlr]; rfl)
          clear hlr
          go_wp2_with fail
          go_ret
          exact ⟨by rw [HNO.out k hkL HKF.out]; rfl, C1.out⟩
        · have hkk : lk xs k = lfB xs k := by rw [HKK.out, hlr]; rfl
          have HK2 := Lib.hid hkk
          clear hlr hkk
          by_cases h0 : k = 0
          · have e0 : decide (0 < k) = false := decide_eq_false (by omega)
            have HKT := Lib.hid (show lk xs k = true by rw [HK2.out]; unfold lfB; rw [decide_eq_true h0]; rfl)
            clear h0
            go_wp2_with fail
            go_quiet (fail)
            have C2 := Lib.hid (bdrewN C1.out nq)
            go_wp2_with fail
            go_roundw
            case rel => exact ⟨k + 1, by go_num, by omega, C2, Lib.hid (by rw [lk_all, HF.out, HKT.out]; rfl)⟩
            case measure => simp [intOf]; omega
          · obtain ⟨j, hj⟩ : ∃ j, j + 1 = k := ⟨k - 1, by omega⟩
            have e0 : 0 < k := by omega
            obtain ⟨p, hp⟩ := at_of_lt (xs := xs) (k := j) (by rw [HL.out]; omega)
            obtain ⟨d0, -, -, -⟩ := rw_c0 RC.out hp
            obtain ⟨d1, -, -⟩ := rw_f RC.out hp
            obtain ⟨v0, v1⟩ := HU.out.get hp
            have hw1 : IntKind.i64.wrap ((k : Int) - 1) = (j : Int) := by rw [IntKind.wrap_i64]; omega
            have hjL : j < L := by omega
            have HLF := Lib.hid (show lfB xs k = (decide (p.a < x.a) && decide (p.a + p2 p.b ≤ x.a)) by unfold lfB; rw [decide_eq_false h0, show k - 1 = j by omega, hp, HX.out]; rfl)
            obtain ⟨-, p24, p32, -⟩ := lrB_out (lk_get HF.out (by omega) hp)
            have hp2 := wrap_p2 p.b (by omega)
            have hp3 := p2_pos p.b
            have hp4 := p2_le p.b (by omega)
            have hp5 : IntKind.u64.wrap (2 ^ (32 - p.b).toNat) = p2 p.b := by
              show IntKind.u64.wrap (p2 p.b) = p2 p.b
              rw [IntKind.wrap_u64]; omega
            have hp6 : IntKind.u64.wrap (p.a + p2 p.b) = p.a + p2 p.b := by rw [IntKind.wrap_u64]; omega
            clear h0 hp hj
            by_cases hlt : p.a < x.a
            · by_cases hov : p.a + p2 p.b ≤ x.a
              · have hlt' : decide (x.a ≤ p.a) = false := decide_eq_false (by omega)
                have hov' : decide (x.a < p.a + p2 p.b) = false := decide_eq_false (by omega)
                have HKT := Lib.hid (show lk xs k = true by rw [HK2.out, HLF.out, decide_eq_true hlt, decide_eq_true hov]; rfl)
                go_wp2_with fail
                go_quiet (fail)
                have C2 := Lib.hid (bdrewN C1.out nq)
                go_wp2_with fail
                go_roundw
                case rel => exact ⟨k + 1, by go_num, by omega, C2, Lib.hid (by rw [lk_all, HF.out, HKT.out]; rfl)⟩
                case measure => simp [intOf]; omega
              · have hlt' : decide (x.a ≤ p.a) = false := decide_eq_false (by omega)
                have hov' : x.a < p.a + p2 p.b := by omega
                have HKF := Lib.hid (show lk xs k = false by rw [HK2.out, HLF.out, decide_eq_false hov, Bool.and_false])
                go_wp2_with fail
                go_quiet (fail)
                go_wp2_with fail
                go_ret
                exact ⟨by rw [HNO.out k hkL HKF.out]; rfl, bdrewN C1.out nq⟩
            · have hlt' : x.a ≤ p.a := by omega
              have HKF := Lib.hid (show lk xs k = false by rw [HK2.out, HLF.out, decide_eq_false hlt, Bool.false_and])
              go_wp2_with fail
              go_quiet (fail)
              go_wp2_with fail
              go_ret
              exact ⟨by rw [HNO.out k hkL HKF.out]; rfl, bdrewN C1.out nq⟩
    · obtain rfl : k = L := by omega
      have HQ := Lib.hid (show lgB xs = decide (k ≤ 16) by rw [HRG.out, HF.out, Bool.true_and])
      go_wp2_with fail
      go_ret
      refine ⟨?_, HW.out⟩
      rw [HQ.out]
      by_cases h16 : k ≤ 16
      · simp [h16]; try omega
      · simp [h16]; try omega
end Go.Proofs.Ytenolbgadlehpaa
