/-
  The walk of MacKinds: called at any number it returns true and changes nothing that was in memory.
-/
import Derived.Test.YtncjleleeananaaAwake
namespace Go.Proofs.Ytncjleleeananaa
open Go.RowKit

/-- Whether the first k bytes are zero. -/
def zeros (bs : List Int) (k : Nat) : Bool := (bs.take k).all fun n => n == 0
theorem zeros_succ (bs : List Int) (k : Nat) (h : k < bs.length) : zeros bs (k + 1) = (zeros bs k && (bs.getD k 0 == 0)) := by
  unfold zeros
  rw [List.take_succ_eq_append_getElem h, List.all_append]
  simp [List.getD, List.getElem?_eq_getElem h]
theorem zeros_all (b0 b1 b2 b3 b4 b5 : Int) : eq6 b0 b1 b2 b3 b4 b5 0 0 0 0 0 0 = zeros [b0, b1, b2, b3, b4, b5] 6 := by
  unfold eq6 zeros
  rw [Bool.eq_iff_iff]
  simp

set_option maxHeartbeats 2000000 in
theorem macKinds_walk (b0 b1 b2 b3 b4 b5 : Int) (w : World) (h : Six b0 b1 b2 b3 b4 b5) :
    Calls Try.prog 5 #[.agg #[.int .u8 b0, .int .u8 b1, .int .u8 b2, .int .u8 b3, .int .u8 b4, .int .u8 b5]] w fun e w' => e = .returned (.bool true) ∧ Below w.heap.size w w' := by
  have HN := Lib.hid fun W => none_any b0 b1 b2 b3 b4 b5 W
  have HG := Lib.hid fun W => group_any b0 b1 b2 b3 b4 b5 W h.h0 h.g0
  rw [zeros_all] at HN
  have h0 := h.h0
  have h1 := h.g0
  clear h
  go_enter Try.func5, Try.ntmps5
  go_wp2_with fail
  refine (awake_any _).mono ?_
  rintro e w1 ⟨rfl, hb⟩
  have HB := Lib.hid (show Below w.heap.size w w1 from ((Below.refl _ w).alloc (Nat.le_refl _) _).trans (hb.mono (by simp)))
  obtain ⟨hc, hf⟩ := bcell hb
  have f0 : w1.cell? ⟨w.heap.size, 0, none⟩ = some (.int .u8 b0) := by go_simp
  have f1 : w1.cell? ⟨w.heap.size, 1, none⟩ = some (.int .u8 b1) := by go_simp
  have f2 : w1.cell? ⟨w.heap.size, 2, none⟩ = some (.int .u8 b2) := by go_simp
  have f3 : w1.cell? ⟨w.heap.size, 3, none⟩ = some (.int .u8 b3) := by go_simp
  have f4 : w1.cell? ⟨w.heap.size, 4, none⟩ = some (.int .u8 b4) := by go_simp
  have f5 : w1.cell? ⟨w.heap.size, 5, none⟩ = some (.int .u8 b5) := by go_simp
  clear hb hc hf
  go_wp2_with fail
  go_loop [3, 9] (fun z i => ∃ k : Nat, k ≤ 6 ∧ i = .int .i64 k ∧ z = .bool (zeros [b0, b1, b2, b3, b4, b5] k)) (fun _ i => 6 - (intOf i).toNat)
  case atStart => exact ⟨0, by omega, rfl, rfl⟩
  case round =>
    obtain ⟨k, hk, rfl, rfl⟩ := hrel
    rcases (show k = 0 ∨ k = 1 ∨ k = 2 ∨ k = 3 ∨ k = 4 ∨ k = 5 ∨ k = 6 by omega) with rfl | rfl | rfl | rfl | rfl | rfl | rfl
    · have e0 := fun W => run_at6 b0 b1 b2 b3 b4 b5 0 (by omega) W
      simp only [List.getD_cons_zero, Int.cast_ofNat_Int] at e0
      have HZ := Lib.hid (zeros_succ [b0, b1, b2, b3, b4, b5] 0 (by simp))
      generalize zeros [b0, b1, b2, b3, b4, b5] 0 = t at *
      cases t
      all_goals
        go_wp2_with fail
        go_round
        case measure => simp [intOf]
        case rel => exact ⟨1, by omega, rfl, by rw [HZ.out]; rfl⟩
    · have e0 := fun W => run_at6 b0 b1 b2 b3 b4 b5 1 (by omega) W
      simp only [List.getD_cons_zero, List.getD_cons_succ, Int.cast_ofNat_Int] at e0
      have HZ := Lib.hid (zeros_succ [b0, b1, b2, b3, b4, b5] 1 (by simp))
      generalize zeros [b0, b1, b2, b3, b4, b5] 1 = t at *
      cases t
      all_goals
        go_wp2_with fail
        go_round
        case measure => simp [intOf]
        case rel => exact ⟨2, by omega, rfl, by rw [HZ.out]; rfl⟩
    · have e0 := fun W => run_at6 b0 b1 b2 b3 b4 b5 2 (by omega) W
      simp only [List.getD_cons_zero, List.getD_cons_succ, Int.cast_ofNat_Int] at e0
      have HZ := Lib.hid (zeros_succ [b0, b1, b2, b3, b4, b5] 2 (by simp))
      generalize zeros [b0, b1, b2, b3, b4, b5] 2 = t at *
      cases t
      all_goals
        go_wp2_with fail
        go_round
        case measure => simp [intOf]
        case rel => exact ⟨3, by omega, rfl, by rw [HZ.out]; rfl⟩
    · have e0 := fun W => run_at6 b0 b1 b2 b3 b4 b5 3 (by omega) W
      simp only [List.getD_cons_zero, List.getD_cons_succ, Int.cast_ofNat_Int] at e0
      have HZ := Lib.hid (zeros_succ [b0, b1, b2, b3, b4, b5] 3 (by simp))
      generalize zeros [b0, b1, b2, b3, b4, b5] 3 = t at *
      cases t
      all_goals
        go_wp2_with fail
        go_round
        case measure => simp [intOf]
        case rel => exact ⟨4, by omega, rfl, by rw [HZ.out]; rfl⟩
    · have e0 := fun W => run_at6 b0 b1 b2 b3 b4 b5 4 (by omega) W
      simp only [List.getD_cons_zero, List.getD_cons_succ, Int.cast_ofNat_Int] at e0
      have HZ := Lib.hid (zeros_succ [b0, b1, b2, b3, b4, b5] 4 (by simp))
      generalize zeros [b0, b1, b2, b3, b4, b5] 4 = t at *
      cases t
      all_goals
        go_wp2_with fail
        go_round
        case measure => simp [intOf]
        case rel => exact ⟨5, by omega, rfl, by rw [HZ.out]; rfl⟩
    · have e0 := fun W => run_at6 b0 b1 b2 b3 b4 b5 5 (by omega) W
      simp only [List.getD_cons_zero, List.getD_cons_succ, Int.cast_ofNat_Int] at e0
      have HZ := Lib.hid (zeros_succ [b0, b1, b2, b3, b4, b5] 5 (by simp))
      generalize zeros [b0, b1, b2, b3, b4, b5] 5 = t at *
      cases t
      all_goals
        go_wp2_with fail
        go_round
        case measure => simp [intOf]
        case rel => exact ⟨6, by omega, rfl, by rw [HZ.out]; rfl⟩
    · generalize zeros [b0, b1, b2, b3, b4, b5] 6 = t at *
      replace f0 := cell_regrown f0
      replace f1 := cell_regrown f1
      replace f2 := cell_regrown f2
      replace f3 := cell_regrown f3
      replace f4 := cell_regrown f4
      replace f5 := cell_regrown f5
      have CN := Lib.hid fun (d : Nat) (os : Array Obj) => Calls.regrown_of (HN.out (Sort.grow (redrawn w1 d) os))
      have CG := Lib.hid fun (d : Nat) (os : Array Obj) => Calls.regrown_of (HG.out (Sort.grow (redrawn w1 d) os))
      have e1 : (b0 % 2 == 1) = true ∨ (b0 % 2 == 1) = false := by cases (b0 % 2 == 1) <;> simp
      cases t
      all_goals
        rcases e1 with e1 | e1
        all_goals
          rw [e1] at CG
          go_wp2_with fail
          refine wp_region_quiet_below (by kernel_rfl) (by kernel_rfl) ?_
          repeat (go_big_quiet_step (first | (go_at_call 12; with_reducible exact CN.out _ _) | (go_at_call 13; with_reducible exact CG.out _ _)))
          refine wpQuiet_nil ?_
          intro _ hw'
          obtain ⟨⟨dq, osq⟩, hw''⟩ := hw'
          subst hw''
          have HB7 := Lib.hid (bthen HB.out (below_regrown w1 dq osq))
          clear f0 f1 f2 f3 f4 f5 CN CG e1
          generalize Sort.grow (redrawn w1 dq) osq = W7 at *
          go_wp2_with fail
          go_ret
          exact ⟨rfl, HB7.out⟩
end Go.Proofs.Ytncjleleeananaa
