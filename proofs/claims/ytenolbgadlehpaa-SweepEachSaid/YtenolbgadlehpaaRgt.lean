/-
  The contract of sweep.Right. Conditions: the row lies in memory, and its addresses are numbers of 32 bits.
-/
import Derived.Test.YtenolbgadlehpaaAnyo
set_option linter.unusedSimpArgs false
set_option linter.unusedVariables false
namespace Go.Proofs.Ytenolbgadlehpaa
open Go.RowKit

/-- Whether a sweep of a row stands behind the one ahead. -/
def ris (xs : List Sw) (i : Nat) : Bool := decide (i = 0) || match xs[i - 1]?, xs[i]? with
  | some p, some x => decide (p.a < x.a)
  | _, _ => false
/-- Whether a sweep of a row is right there. -/
def rk (xs : List Sw) (i : Nat) : Bool := match xs[i]? with
  | some x => ris xs i && rsB x && !anyB (xs.take i) x.a x.b
  | none => true
/-- Whether a row is right. -/
def rgB (xs : List Sw) : Bool := decide (xs.length ≤ 16) && (List.range xs.length).all (rk xs)
theorem rk_all (xs : List Sw) (k : Nat) : (List.range (k + 1)).all (rk xs) = ((List.range k).all (rk xs) && rk xs k) := by
  rw [List.range_succ, List.all_append]; simp
theorem rgB_no {xs : List Sw} {k : Nat} (hk : k < xs.length) (h : rk xs k = false) : rgB xs = false := by
  unfold rgB
  have : (List.range xs.length).all (rk xs) = false := by
    rw [Bool.eq_false_iff]
    intro hc
    rw [List.all_eq_true] at hc
    have := hc k (List.mem_range.2 hk)
    rw [h] at this; cases this
  rw [this, Bool.and_false]
theorem run_sl29 (A : Option Addr) (n c i : Nat) (hi : i ≤ c) (W : World) : (Instr.slice 29 (.slice A n c) none (some (.int .i64 (i : Int))) none).run Try.prog W = .ok (.slice A i c) W := by
  have h1 : (i : Int) ≤ c := by omega
  have h2 : A.map (·.add (0 * 4)) = A := by cases A <;> simp [Addr.add]
  unfold Instr.slice Instr.sliceBounds Instr.sliceBound
  simp only [Sem.run_bind, run_underlying Try.underlying29, Result.andThen_ok, Sem.run_pure, run_size39, asIntOf]
  try simp only [Option.isSome_none, Bool.false_eq_true, if_false, Sem.run_bind, Sem.run_pure, Result.andThen_ok]
  rw [if_pos ⟨by omega, h1⟩]
  simp only [Sem.run_bind, Sem.run_pure, Result.andThen_ok, h2, ite_self, Nat.sub_zero, Int.toNat_natCast]
theorem run_sl29l (A : Option Addr) (n c k : Nat) (hk : k ≤ n) (hc : n ≤ c) (W : World) : (Instr.slice 29 (.slice A n c) (some (.int .i64 (k : Int))) none none).run Try.prog W = .ok (.slice (dA 4 A c k) (n - k) (c - k)) W := by
  have h1 : (k : Int) ≤ n := by omega
  unfold Instr.slice Instr.sliceBounds Instr.sliceBound
  simp only [Sem.run_bind, run_underlying Try.underlying29, Result.andThen_ok, Sem.run_pure, run_size39, asIntOf]
  try simp only [Option.isSome_none, Bool.false_eq_true, if_false, Sem.run_bind, Sem.run_pure, Result.andThen_ok]
  rw [if_pos ⟨by omega, h1⟩]
  simp only [Sem.run_bind, Sem.run_pure, Result.andThen_ok, Int.toNat_natCast]
  rfl

set_option maxRecDepth 100000 in
set_option maxHeartbeats 8000000 in
theorem right_row (A : Option Addr) (xs : List Sw) (cap : Nat) (w : World) (h : Rw eW w A xs) (hu : Au xs) (hcap : xs.length ≤ cap) :
    Calls Try.prog 19 #[.slice A xs.length cap] w fun e w' => e = .returned (.bool (rgB xs)) ∧ Below w.heap.size w w' := by
  have hln := h.1
  have R := Lib.hid h
  have HU := Lib.hid hu
  have HNO := Lib.hid (fun k => @rgB_no xs k)
  have HRG := Lib.hid (show rgB xs = _ by unfold rgB; rfl)
  have HSL := Lib.hid (fun n c i hi W => run_sl29 A n c i hi W)
  clear h hu
  by_cases h16 : 16 < xs.length
  · have HF := Lib.hid (show rgB xs = false by rw [HRG.out, decide_eq_false (by omega)]; rfl)
    generalize xs.length = L at *
    go_enter Try.func19, Try.ntmps19
    go_wp2_with fail
    go_ret
    exact ⟨by rw [HF.out]; rfl, Below.refl _ _⟩
  · have h16' : xs.length ≤ 16 := by omega
    rw [decide_eq_true h16', Bool.true_and] at HRG
    obtain ⟨L, hL⟩ : ∃ L, xs.length = L := ⟨_, rfl⟩
    have HL := Lib.hid hL
    rw [hL] at hln hcap HRG HNO h16 h16' ⊢
    clear hL
    go_enter Try.func19, Try.ntmps19
    go_wp2_with fail
    go_loopw [11] (fun i wr => ∃ k : Nat, i = .int .i64 k ∧ k ≤ L ∧ Hid (Below w.heap.size w wr) ∧ Hid ((List.range k).all (rk xs) = true)) (fun i _ => L - (intOf i).toNat)
    case atStart => exact ⟨0, rfl, by omega, Lib.hid (Below.refl _ _), Lib.hid rfl⟩
    case round =>
      obtain ⟨k, rfl, hk, HW, HF⟩ := hrel
      by_cases hkL : k < L
      · obtain ⟨x, hx⟩ : ∃ x, xs[k]? = some x := ⟨_, List.getElem?_eq_getElem (by rw [HL.out]; exact hkL)⟩
        obtain ⟨y, rfl⟩ := rw_some R.out (by rw [HL.out]; omega)
        have RW := Lib.hid (R.out.below HW.out)
        have hat := RW.out.at hx
        obtain ⟨u0, u1⟩ := HU.out.get hx
        have HX := Lib.hid hx
        obtain ⟨s0, s1, s2, s3⟩ := sw_box wr x
        have hsz : wr.heap.size < (wr.alloc (Swx x)).heap.size := by simp
        have B1 := Lib.hid (show Below w.heap.size w (wr.alloc (Swx x)) from HW.out.alloc HW.out.size _)
        have R1 := Lib.hid (RW.out.below ((Below.refl _ wr).alloc (Nat.le_refl _) (Swx x)))
        unfold Swx at *
        go_wp2_with (refine at_load39 (.tmp 14) rfl rfl (y.add (k * 4)) x rfl hat ?_)
        generalize wr.alloc (.cells #[.int .u32 x.a, .int .i64 x.b, .int .i64 x.d, .int .i64 x.n] 39) = W at *
        have r0 := cell_regrown s0
        have r1 := cell_regrown s1
        have r2 := cell_regrown s2
        have r3 := cell_regrown s3
        have HKK := Lib.hid (show rk xs k = (ris xs k && rsB x && !anyB (xs.take k) x.a x.b) by unfold rk; rw [hx])
        have e1 : (xs.take k).length = k := by rw [List.length_take, HL.out]; omega
        clear hat
        by_cases h0 : k = 0
        · have e0 : ((k : Int) == 0) = true := by simp [h0]
          have HRI := Lib.hid (show ris xs k = true by unfold ris; rw [decide_eq_true h0]; rfl)
          clear h0 hx
          go_wp2_with fail
          go_quiet (fail)
          have B2 := Lib.hid (bdrewN B1.out nq)
          have R2 := Lib.hid (R1.out.drewN nq)
          have t0 : (W.drewN nq).cell? ⟨wr.heap.size, 0, none⟩ = some (.int .u32 x.a) := s0
          have t1 : (W.drewN nq).cell? ⟨wr.heap.size, 1, none⟩ = some (.int .i64 x.b) := s1
          have t2 : (W.drewN nq).cell? ⟨wr.heap.size, 2, none⟩ = some (.int .i64 x.d) := s2
          have t3 : (W.drewN nq).cell? ⟨wr.heap.size, 3, none⟩ = some (.int .i64 x.n) := s3
          generalize W.drewN nq = W2 at *
          clear r0 r1 r2 r3
          have r0 := cell_regrown t0
          have r1 := cell_regrown t1
          have r2 := cell_regrown t2
          have r3 := cell_regrown t3
          clear t0 t1 t2 t3 s0 s1 s2 s3
          go_wp2_with fail
          cases hrs : rsB x
          · have HKF := Lib.hid (show rk xs k = false by rw [HKK.out, HRI.out, hrs]; rfl)
            have RSW := fun W' => (rightSweep_any x W' u0 u1)
            rw [hrs] at RSW
            have HRS := Lib.hid fun d os => Calls.regrown_of (d := d) (os := os) (RSW (Sort.grow (redrawn W2 d) os))
            refine wp_region_quiet_below (by kernel_rfl) (by kernel_rfl) ?_
            repeat (go_big_quiet_step (first | (go_at_call 33; exact HRS.out _ _) | (go_at_call 31; exact HAO.out _ _)))
            refine wpQuiet_nil ?_
            intro _ hw'
            obtain ⟨⟨dq, osq⟩, hw''⟩ := hw'
            subst hw''
            have B3 := Lib.hid (show Below w.heap.size w (Sort.grow (redrawn W2 dq) osq) from B2.out.trans ((below_regrown _ dq osq).mono B2.out.size))
            go_wp2_with fail
            go_ret
            exact ⟨by rw [HNO.out k hkL HKF.out]; rfl, B3.out⟩
          · have RSW := fun W' => (rightSweep_any x W' u0 u1)
            rw [hrs] at RSW
            have AOW := fun W' (hR : Rw eW W' (some y) xs) => anyOverlap_any x.a x.b (some y) (xs.take k) cap W' (hR.take k) (fun z hz => HU.out z (List.mem_of_mem_take hz)) u0 u1
            rw [e1] at AOW
            have RSL := HSL.out L cap k (by omega)
            cases han : anyB (xs.take k) x.a x.b
            · have HKT := Lib.hid (show rk xs k = true by rw [HKK.out, HRI.out, hrs, han]; rfl)
              rw [han] at AOW
              have HRS := Lib.hid fun d os => Calls.regrown_of (d := d) (os := os) (RSW (Sort.grow (redrawn W2 d) os))
              have HAO := Lib.hid fun d os => Calls.regrown_of (d := d) (os := os) (AOW (Sort.grow (redrawn W2 d) os) (R2.out.below (below_regrown W2 d os)))
              refine wp_region_quiet_below (by kernel_rfl) (by kernel_rfl) ?_
              repeat (go_big_quiet_step (first | (go_at_call 33; exact HRS.out _ _) | (go_at_call 31; exact HAO.out _ _)))
              refine wpQuiet_nil ?_
              intro _ hw'
              obtain ⟨⟨dq, osq⟩, hw''⟩ := hw'
              subst hw''
              have B3 := Lib.hid (show Below w.heap.size w (Sort.grow (redrawn W2 dq) osq) from B2.out.trans ((below_regrown _ dq osq).mono B2.out.size))
              go_wp2_with fail
              go_roundw
              case rel => exact ⟨k + 1, by go_num, by omega, B3, Lib.hid (by rw [rk_all, HF.out, HKT.out]; rfl)⟩
              case measure => simp [intOf]; omega
            · have HKF := Lib.hid (show rk xs k = false by rw [HKK.out, HRI.out, hrs, han]; rfl)
              rw [han] at AOW
              have HRS := Lib.hid fun d os => Calls.regrown_of (d := d) (os := os) (RSW (Sort.grow (redrawn W2 d) os))
              have HAO := Lib.hid fun d os => Calls.regrown_of (d := d) (os := os) (AOW (Sort.grow (redrawn W2 d) os) (R2.out.below (below_regrown W2 d os)))
              refine wp_region_quiet_below (by kernel_rfl) (by kernel_rfl) ?_
              repeat (go_big_quiet_step (first | (go_at_call 33; exact HRS.out _ _) | (go_at_call 31; exact HAO.out _ _)))
              refine wpQuiet_nil ?_
              intro _ hw'
              obtain ⟨⟨dq, osq⟩, hw''⟩ := hw'
              subst hw''
              have B3 := Lib.hid (show Below w.heap.size w (Sort.grow (redrawn W2 dq) osq) from B2.out.trans ((below_regrown _ dq osq).mono B2.out.size))
              go_wp2_with fail
              go_ret
              exact ⟨by rw [HNO.out k hkL HKF.out]; rfl, B3.out⟩
        · obtain ⟨j, hj⟩ : ∃ j, j + 1 = k := ⟨k - 1, by omega⟩
          have e0 : ((k : Int) == 0) = false := by simp; exact h0
          obtain ⟨p, hp⟩ : ∃ p, xs[j]? = some p := ⟨_, List.getElem?_eq_getElem (by rw [HL.out]; omega)⟩
          obtain ⟨c0, -, -, -⟩ := rw_c0 R1.out hp
          have hw1 : IntKind.i64.wrap ((k : Int) - 1) = (j : Int) := by rw [IntKind.wrap_i64]; omega
          have hjL : j < L := by omega
          have HRI0 := Lib.hid (show ris xs k = decide (p.a < x.a) by unfold ris; rw [decide_eq_false h0, show k - 1 = j by omega, hp, hx]; rfl)
          clear h0 hx hp hj
          by_cases hlt : p.a < x.a
          · have HRI := Lib.hid (show ris xs k = true by rw [HRI0.out, decide_eq_true hlt])
            go_wp2_with fail
            go_quiet (fail)
            have B2 := Lib.hid (bdrewN B1.out nq)
            have R2 := Lib.hid (R1.out.drewN nq)
            have t0 : (W.drewN nq).cell? ⟨wr.heap.size, 0, none⟩ = some (.int .u32 x.a) := s0
            have t1 : (W.drewN nq).cell? ⟨wr.heap.size, 1, none⟩ = some (.int .i64 x.b) := s1
            have t2 : (W.drewN nq).cell? ⟨wr.heap.size, 2, none⟩ = some (.int .i64 x.d) := s2
            have t3 : (W.drewN nq).cell? ⟨wr.heap.size, 3, none⟩ = some (.int .i64 x.n) := s3
            generalize W.drewN nq = W2 at *
            clear r0 r1 r2 r3
            have r0 := cell_regrown t0
            have r1 := cell_regrown t1
            have r2 := cell_regrown t2
            have r3 := cell_regrown t3
            clear t0 t1 t2 t3 s0 s1 s2 s3
            go_wp2_with fail
            cases hrs : rsB x
            · have HKF := Lib.hid (show rk xs k = false by rw [HKK.out, HRI.out, hrs]; rfl)
              have RSW := fun W' => (rightSweep_any x W' u0 u1)
              rw [hrs] at RSW
              have HRS := Lib.hid fun d os => Calls.regrown_of (d := d) (os := os) (RSW (Sort.grow (redrawn W2 d) os))
              refine wp_region_quiet_below (by kernel_rfl) (by kernel_rfl) ?_
              repeat (go_big_quiet_step (first | (go_at_call 33; exact HRS.out _ _) | (go_at_call 31; exact HAO.out _ _)))
              refine wpQuiet_nil ?_
              intro _ hw'
              obtain ⟨⟨dq, osq⟩, hw''⟩ := hw'
              subst hw''
              have B3 := Lib.hid (show Below w.heap.size w (Sort.grow (redrawn W2 dq) osq) from B2.out.trans ((below_regrown _ dq osq).mono B2.out.size))
              go_wp2_with fail
              go_ret
              exact ⟨by rw [HNO.out k hkL HKF.out]; rfl, B3.out⟩
            · have RSW := fun W' => (rightSweep_any x W' u0 u1)
              rw [hrs] at RSW
              have AOW := fun W' (hR : Rw eW W' (some y) xs) => anyOverlap_any x.a x.b (some y) (xs.take k) cap W' (hR.take k) (fun z hz => HU.out z (List.mem_of_mem_take hz)) u0 u1
              rw [e1] at AOW
              have RSL := HSL.out L cap k (by omega)
              cases han : anyB (xs.take k) x.a x.b
              · have HKT := Lib.hid (show rk xs k = true by rw [HKK.out, HRI.out, hrs, han]; rfl)
                rw [han] at AOW
                have HRS := Lib.hid fun d os => Calls.regrown_of (d := d) (os := os) (RSW (Sort.grow (redrawn W2 d) os))
                have HAO := Lib.hid fun d os => Calls.regrown_of (d := d) (os := os) (AOW (Sort.grow (redrawn W2 d) os) (R2.out.below (below_regrown W2 d os)))
                refine wp_region_quiet_below (by kernel_rfl) (by kernel_rfl) ?_
                repeat (go_big_quiet_step (first | (go_at_call 33; exact HRS.out _ _) | (go_at_call 31; exact HAO.out _ _)))
                refine wpQuiet_nil ?_
                intro _ hw'
                obtain ⟨⟨dq, osq⟩, hw''⟩ := hw'
                subst hw''
                have B3 := Lib.hid (show Below w.heap.size w (Sort.grow (redrawn W2 dq) osq) from B2.out.trans ((below_regrown _ dq osq).mono B2.out.size))
                go_wp2_with fail
                go_roundw
                case rel => exact ⟨k + 1, by go_num, by omega, B3, Lib.hid (by rw [rk_all, HF.out, HKT.out]; rfl)⟩
                case measure => simp [intOf]; omega
              · have HKF := Lib.hid (show rk xs k = false by rw [HKK.out, HRI.out, hrs, han]; rfl)
                rw [han] at AOW
                have HRS := Lib.hid fun d os => Calls.regrown_of (d := d) (os := os) (RSW (Sort.grow (redrawn W2 d) os))
                have HAO := Lib.hid fun d os => Calls.regrown_of (d := d) (os := os) (AOW (Sort.grow (redrawn W2 d) os) (R2.out.below (below_regrown W2 d os)))
                refine wp_region_quiet_below (by kernel_rfl) (by kernel_rfl) ?_
                repeat (go_big_quiet_step (first | (go_at_call 33; exact HRS.out _ _) | (go_at_call 31; exact HAO.out _ _)))
                refine wpQuiet_nil ?_
                intro _ hw'
                obtain ⟨⟨dq, osq⟩, hw''⟩ := hw'
                subst hw''
                have B3 := Lib.hid (show Below w.heap.size w (Sort.grow (redrawn W2 dq) osq) from B2.out.trans ((below_regrown _ dq osq).mono B2.out.size))
                go_wp2_with fail
                go_ret
                exact ⟨by rw [HNO.out k hkL HKF.out]; rfl, B3.out⟩
          · have HRI := Lib.hid (show ris xs k = false by rw [HRI0.out, decide_eq_false hlt])
            have hlt' : decide (p.a < x.a) = false := decide_eq_false hlt
            clear hlt
            go_wp2_with fail
            go_quiet (fail)
            have B2 := Lib.hid (bdrewN B1.out nq)
            have R2 := Lib.hid (R1.out.drewN nq)
            have t0 : (W.drewN nq).cell? ⟨wr.heap.size, 0, none⟩ = some (.int .u32 x.a) := s0
            have t1 : (W.drewN nq).cell? ⟨wr.heap.size, 1, none⟩ = some (.int .i64 x.b) := s1
            have t2 : (W.drewN nq).cell? ⟨wr.heap.size, 2, none⟩ = some (.int .i64 x.d) := s2
            have t3 : (W.drewN nq).cell? ⟨wr.heap.size, 3, none⟩ = some (.int .i64 x.n) := s3
            generalize W.drewN nq = W2 at *
            clear r0 r1 r2 r3
            have r0 := cell_regrown t0
            have r1 := cell_regrown t1
            have r2 := cell_regrown t2
            have r3 := cell_regrown t3
            clear t0 t1 t2 t3 s0 s1 s2 s3
            go_wp2_with fail
            have HKF := Lib.hid (show rk xs k = false by rw [HKK.out, HRI.out]; rfl)
            refine wp_region_quiet_below (by kernel_rfl) (by kernel_rfl) ?_
            repeat (go_big_quiet_step (first | (go_at_call 33; exact HRS.out _ _) | (go_at_call 31; exact HAO.out _ _)))
            refine wpQuiet_nil ?_
            intro _ hw'
            obtain ⟨⟨dq, osq⟩, hw''⟩ := hw'
            subst hw''
            have B3 := Lib.hid (show Below w.heap.size w (Sort.grow (redrawn W2 dq) osq) from B2.out.trans ((below_regrown _ dq osq).mono B2.out.size))
            go_wp2_with fail
            go_ret
            exact ⟨by rw [HNO.out k hkL HKF.out]; rfl, B3.out⟩
      · obtain rfl : k = L := by omega
        go_wp2_with fail
        go_ret
        exact ⟨by rw [HRG.out, HF.out]; rfl, HW.out⟩
end Go.Proofs.Ytenolbgadlehpaa
