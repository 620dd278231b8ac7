/-
  The contract of probe.Right. Conditions: the row lies in memory.
-/
import Derived.BigGuard
import Derived.Test.YtjjbkhelnmdfnaaRpr
set_option linter.unusedSimpArgs false
set_option linter.unusedVariables false
namespace Go.Proofs.Ytjjbkhelnmdfnaa
open Go.RowKit

/-- Whether a question of a row is right, at its place. -/
def rk (xs : List Pr) (k : Nat) : Bool := match xs[k]? with
  | some x => rqB x && !toB (xs.take k) x.a
  | none => true
def rgB (xs : List Pr) : Bool := decide (xs.length ≤ 16) && (List.range xs.length).all (rk xs)
theorem rk_all (xs : List Pr) (k : Nat) : (List.range (k + 1)).all (rk xs) = ((List.range k).all (rk xs) && rk xs k) := by
  rw [List.range_succ, List.all_append]; simp
theorem all_no {xs : List Pr} {k : Nat} (hk : k < xs.length) (h : rk xs k = false) : (List.range xs.length).all (rk xs) = false := by
  rw [Bool.eq_false_iff]
  intro hc
  rw [List.all_eq_true] at hc
  have := hc k (List.mem_range.2 hk)
  rw [h] at this; cases this
theorem rgB_no {xs : List Pr} {k : Nat} (hk : k < xs.length) (h : rk xs k = false) : rgB xs = false := by
  unfold rgB
  rw [all_no hk h, Bool.and_false]

set_option maxRecDepth 100000 in
set_option maxHeartbeats 8000000 in
theorem right_row (A : Option Addr) (xs : List Pr) (cap : Nat) (w : World) (h : Rw eP w A xs) (hcap : xs.length ≤ cap) :
    Calls Try.prog 18 #[.slice A xs.length cap] w fun e w' => e = .returned (.bool (rgB xs)) ∧ Below w.heap.size w w' := by
  have hln := h.1
  have R := Lib.hid h
  have HNO := Lib.hid (fun k => @rgB_no xs k)
  have HRG := Lib.hid (show rgB xs = _ by unfold rgB; rfl)
  have HSL := Lib.hid (fun n c i hi W => run_sl29 A n c i hi W)
  clear h
  by_cases h16 : 16 < xs.length
  · have HF := Lib.hid (show rgB xs = false by rw [HRG.out, decide_eq_false (by omega)]; rfl)
    generalize xs.length = L at *
    go_enter Try.func18, Try.ntmps18
    go_wp2_with fail
    go_ret
    exact ⟨by rw [HF.out]; rfl, Below.refl _ _⟩
  · have h16' : xs.length ≤ 16 := by omega
    rw [decide_eq_true h16', Bool.true_and] at HRG
    obtain ⟨L, hL⟩ : ∃ L, xs.length = L := ⟨_, rfl⟩
    have HL := Lib.hid hL
    rw [hL] at hln hcap HRG HNO h16 h16' ⊢
    clear hL
    go_enter Try.func18, Try.ntmps18
    go_wp2_with fail
    go_loopw [10] (fun i wr => ∃ k : Nat, i = .int .i64 k ∧ k ≤ L ∧ Hid (Below w.heap.size w wr) ∧ Hid ((List.range k).all (rk xs) = true)) (fun i _ => L - (intOf i).toNat)
    case atStart => exact ⟨0, rfl, by omega, Lib.hid (Below.refl _ _), Lib.hid rfl⟩
    case round =>
      obtain ⟨k, rfl, hk, HW, HF⟩ := hrel
      by_cases hkL : k < L
      · obtain ⟨x, hx⟩ := at_of_lt (xs := xs) (k := k) (by rw [HL.out]; exact hkL)
        obtain ⟨y, rfl⟩ := rw_some R.out (by rw [HL.out]; omega)
        have RW := Lib.hid (R.out.below HW.out)
        have hat := RW.out.at hx
        have HX := Lib.hid hx
        have Q1 := Lib.hid (qb_box wr x)
        have hsz : wr.heap.size < (wr.alloc (Prx x)).heap.size := by simp
        have B1 := Lib.hid (show Below w.heap.size w (wr.alloc (Prx x)) from HW.out.alloc HW.out.size _)
        have R1 := Lib.hid (RW.out.below ((Below.refl _ wr).alloc (Nat.le_refl _) (Prx x)))
        have HKK := Lib.hid (show rk xs k = (rqB x && !toB (xs.take k) x.a) by unfold rk; rw [hx])
        have e1 : (xs.take k).length = k := by rw [List.length_take, HL.out]; omega
        have RSL := HSL.out L cap k (by omega)
        clear hx
        unfold Prx at *
        go_upto_region 6 with (refine at_load37 (.tmp 13) rfl rfl (y.add (k * 5)) x rfl hat ?_)
        generalize wr.alloc (.cells #[.int .u32 x.a, .int .i64 x.i, .int .i64 x.s, .int .i64 x.t, .int .i64 x.n] 37) = W at *
        obtain ⟨s0, s1, s2, s3, s4⟩ := Q1.out.c
        have r0 := cell_regrown s0
        have r1 := cell_regrown s1
        have r2 := cell_regrown s2
        have r3 := cell_regrown s3
        have r4 := cell_regrown s4
        clear hat s0 s1 s2 s3 s4
        have RQW := fun W' => rightProbe_any x W'
        have TOW := fun W' (hR : Rw eP W' (some y) xs) => anyTo_any x.a (some y) (xs.take k) cap W' (hR.take k)
        rw [e1] at TOW
        unfold prv at RQW
        cases hrs : rqB x
        · have HKF := Lib.hid (show rk xs k = false by rw [HKK.out, hrs]; rfl)
          rw [hrs] at RQW
          have HRS := Lib.hid fun d os => Calls.regrown_of (d := d) (os := os) (RQW (Sort.grow (redrawn W d) os))
          refine wp_region_quiet_below (by kernel_rfl) (by kernel_rfl) ?_
          repeat (go_big_quiet_step (first | (go_at_call 28; exact HRS.out _ _) | (go_at_call 26; exact HAO.out _ _)))
          refine wpQuiet_nil ?_
          intro _ hw'
          obtain ⟨⟨dq, osq⟩, hw''⟩ := hw'
          subst hw''
          have B3 := Lib.hid (show Below w.heap.size w (Sort.grow (redrawn W dq) osq) from B1.out.trans ((below_regrown _ dq osq).mono B1.out.size))
          go_wp2_with fail
          go_ret
          exact ⟨by rw [HNO.out k hkL HKF.out]; rfl, B3.out⟩
        · rw [hrs] at RQW
          cases han : toB (xs.take k) x.a
          · have HKT := Lib.hid (show rk xs k = true by rw [HKK.out, hrs, han]; rfl)
            rw [han] at TOW
            have HRS := Lib.hid fun d os => Calls.regrown_of (d := d) (os := os) (RQW (Sort.grow (redrawn W d) os))
            have HAO := Lib.hid fun d os => Calls.regrown_of (d := d) (os := os) (TOW (Sort.grow (redrawn W d) os) (R1.out.below (below_regrown W d os)))
            refine wp_region_quiet_below (by kernel_rfl) (by kernel_rfl) ?_
            repeat (go_big_quiet_step (first | (go_at_call 28; exact HRS.out _ _) | (go_at_call 26; exact HAO.out _ _)))
            refine wpQuiet_nil ?_
            intro _ hw'
            obtain ⟨⟨dq, osq⟩, hw''⟩ := hw'
            subst hw''
            have B3 := Lib.hid (show Below w.heap.size w (Sort.grow (redrawn W dq) osq) from B1.out.trans ((below_regrown _ dq osq).mono B1.out.size))
            go_wp2_with fail
            go_roundw
            case rel => exact ⟨k + 1, by go_num, by omega, B3, Lib.hid (by rw [rk_all, HF.out, HKT.out]; rfl)⟩
            case measure => simp [intOf]; omega
          · have HKF := Lib.hid (show rk xs k = false by rw [HKK.out, hrs, han]; rfl)
            rw [han] at TOW
            have HRS := Lib.hid fun d os => Calls.regrown_of (d := d) (os := os) (RQW (Sort.grow (redrawn W d) os))
            have HAO := Lib.hid fun d os => Calls.regrown_of (d := d) (os := os) (TOW (Sort.grow (redrawn W d) os) (R1.out.below (below_regrown W d os)))
            refine wp_region_quiet_below (by kernel_rfl) (by kernel_rfl) ?_
            repeat (go_big_quiet_step (first | (go_at_call 28; exact HRS.out _ _) | (go_at_call 26; exact HAO.out _ _)))
            refine wpQuiet_nil ?_
            intro _ hw'
            obtain ⟨⟨dq, osq⟩, hw''⟩ := hw'
            subst hw''
            have B3 := Lib.hid (show Below w.heap.size w (Sort.grow (redrawn W dq) osq) from B1.out.trans ((below_regrown _ dq osq).mono B1.out.size))
            go_wp2_with fail
            go_ret
            exact ⟨by rw [HNO.out k hkL HKF.out]; rfl, B3.out⟩
      · obtain rfl : k = L := by omega
        go_wp2_with fail
        go_ret
        exact ⟨by rw [HRG.out, HF.out]; rfl, HW.out⟩
end Go.Proofs.Ytjjbkhelnmdfnaa
