/-
  The contract of the statements' own 'same'. Conditions: the rows lie in memory.
-/
import Derived.BigGuard
import Derived.Test.YtmaaniokfpkbjaaAny
set_option linter.unusedSimpArgs false
set_option linter.unusedVariables false
namespace Go.Proofs.Ytmaaniokfpkbjaa
open Go.RowKit

set_option maxRecDepth 100000 in
set_option maxHeartbeats 4000000 in
theorem same_any (A B : Option Addr) (xs ys : List Ca) (c e : Nat) (w : World) (h : Rw eA w A xs) (g : Rw eA w B ys) :
    Calls Try.prog 15 #[.slice A xs.length c, .slice B ys.length e] w fun e w' => e = .returned (.bool (decide (xs = ys))) ∧ ∃ q, w' = w.drewN q := by
  have hxn := h.1
  have hyn := g.1
  have HX := Lib.hid h
  have HY := Lib.hid g
  clear h g
  by_cases hne : xs.length = ys.length
  · obtain ⟨L, hL⟩ : ∃ L, xs.length = L := ⟨_, rfl⟩
    have HL := Lib.hid hL
    have HM := Lib.hid (show ys.length = L by omega)
    rw [hL] at hne hxn ⊢
    rw [HM.out] at hyn ⊢
    clear hL hne
    go_enter Try.func15, Try.ntmps15
    go_wp2_with fail
    go_loopw [13] (fun i wr => ∃ (k n : Nat), i = .int .i64 k ∧ k ≤ L ∧ Hid (wr = w.drewN n) ∧ Hid (∀ j, j < k → xs[j]? = ys[j]?)) (fun i _ => L - (intOf i).toNat)
    case atStart => exact ⟨0, 0, rfl, by omega, Lib.hid rfl, Lib.hid (fun j hj => by omega)⟩
    case round =>
      obtain ⟨k, n, rfl, hk, HW, HE⟩ := hrel
      by_cases hkL : k < L
      · obtain ⟨x, hx⟩ := at_of_lt (xs := xs) (by rw [HL.out]; exact hkL)
        obtain ⟨z, hz⟩ := at_of_lt (xs := ys) (by rw [HM.out]; exact hkL)
        obtain ⟨y, rfl⟩ := rw_some HX.out (by rw [HL.out]; omega)
        obtain ⟨y', rfl⟩ := rw_some HY.out (by rw [HM.out]; omega)
        have hlx : ∀ W', (∃ m, W' = wr.drewN m) → ∀ j v, (cal x)[j]? = some v → W'.cell? ((y.add (k * 4)).add j) = some v := by
          rintro W' ⟨m, rfl⟩
          rw [HW.out]
          exact ((HX.out.drewN n).drewN m).at hx
        have hlz : ∀ W', (∃ m, W' = wr.drewN m) → ∀ j v, (cal z)[j]? = some v → W'.cell? ((y'.add (k * 4)).add j) = some v := by
          rintro W' ⟨m, rfl⟩
          rw [HW.out]
          exact ((HY.out.drewN n).drewN m).at hz
        have HLX := Lib.hid hlx
        have HLZ := Lib.hid hlz
        have HXX := Lib.hid hx
        have HZZ := Lib.hid hz
        clear hlx hlz hx hz
        cases heq : eqr x z
        · have HQ := Lib.hid heq
          go_wp2_with fail
          refine wp_region_quiet_lit (by kernel_rfl) (by kernel_rfl) ?_
          repeat (first | (refine quiet_load37 (.tmp 18) (y.add (k * 4)) x HLX.out ?_ ?_ ?_ ?_; rotate_left; (with_reducible rfl); rfl; rotate_left; kernel_rfl; simp only [Act.put, List.setIfInBounds_toArray, List.set_cons_zero, List.set_cons_succ]) | (refine quiet_load37 (.tmp 22) (y'.add (k * 4)) z HLZ.out ?_ ?_ ?_ ?_; rotate_left; (with_reducible rfl); rfl; rotate_left; kernel_rfl; simp only [Act.put, List.setIfInBounds_toArray, List.set_cons_zero, List.set_cons_succ]) | (refine quiet_neq37 (.tmp 19) (.tmp 23) x z ?_ ?_ ?_ ?_ ?_; rotate_left; (with_reducible rfl); rfl; rfl; rotate_left; kernel_rfl; simp only [heq, Bool.not_false, Bool.not_true, Act.put, List.setIfInBounds_toArray, List.set_cons_zero, List.set_cons_succ]) | go_big_quiet_step (fail))
          refine wpQuiet_nil ?_
          intro _ hw'
          obtain ⟨nq, hw''⟩ := hw'
          subst hw''
          go_wp2_with fail
          go_ret
          refine ⟨?_, n + nq, by rw [HW.out, World.drewN_drewN]⟩
          rw [decide_eq_false (fun h => ?_)]
          · rfl
          · have h1 := HXX.out
            rw [h, HZZ.out] at h1
            have h2 := HQ.out
            unfold eqr at h2
            exact absurd (Option.some.inj h1).symm (of_decide_eq_false h2)
        · have HQ := Lib.hid heq
          go_wp2_with fail
          refine wp_region_quiet_lit (by kernel_rfl) (by kernel_rfl) ?_
          repeat (first | (refine quiet_load37 (.tmp 18) (y.add (k * 4)) x HLX.out ?_ ?_ ?_ ?_; rotate_left; (with_reducible rfl); rfl; rotate_left; kernel_rfl; simp only [Act.put, List.setIfInBounds_toArray, List.set_cons_zero, List.set_cons_succ]) | (refine quiet_load37 (.tmp 22) (y'.add (k * 4)) z HLZ.out ?_ ?_ ?_ ?_; rotate_left; (with_reducible rfl); rfl; rotate_left; kernel_rfl; simp only [Act.put, List.setIfInBounds_toArray, List.set_cons_zero, List.set_cons_succ]) | (refine quiet_neq37 (.tmp 19) (.tmp 23) x z ?_ ?_ ?_ ?_ ?_; rotate_left; (with_reducible rfl); rfl; rfl; rotate_left; kernel_rfl; simp only [heq, Bool.not_false, Bool.not_true, Act.put, List.setIfInBounds_toArray, List.set_cons_zero, List.set_cons_succ]) | go_big_quiet_step (fail))
          refine wpQuiet_nil ?_
          intro _ hw'
          obtain ⟨nq, hw''⟩ := hw'
          subst hw''
          go_wp2_with fail
          go_roundw
          case rel =>
            refine ⟨k + 1, n + nq, by go_num, by omega, Lib.hid (by rw [HW.out, World.drewN_drewN]), Lib.hid fun j hj => ?_⟩
            by_cases hjk : j = k
            · subst hjk
              have h2 := HQ.out
              unfold eqr at h2
              rw [HXX.out, HZZ.out, of_decide_eq_true h2]
            · exact HE.out j (by omega)
          case measure => simp [intOf]; omega
      · obtain rfl : k = L := by omega
        go_wp2_with fail
        go_ret
        refine ⟨?_, n, HW.out⟩
        rw [decide_eq_true (List.ext_getElem? fun j => ?_)]
        · rfl
        · by_cases hj : j < k
          · exact HE.out j hj
          · rw [List.getElem?_eq_none (by rw [HL.out]; omega), List.getElem?_eq_none (by rw [HM.out]; omega)]
  · have hd : decide (xs = ys) = false := decide_eq_false fun h => hne (by rw [h])
    rw [hd]
    clear hd
    have hne' : ((xs.length : Int) == ys.length) = false := by simpa using fun h : (xs.length : Int) = ys.length => hne (by omega)
    generalize xs.length = L at *
    generalize ys.length = M at *
    go_enter Try.func15, Try.ntmps15
    go_wp2_with fail
    go_ret
    exact ⟨rfl, 0, rfl⟩

end Go.Proofs.Ytmaaniokfpkbjaa
