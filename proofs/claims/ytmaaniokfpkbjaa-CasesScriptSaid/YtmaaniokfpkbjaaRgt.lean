/-
  The contract of cases.Right. Conditions: the row lies in memory.
-/
import Derived.BigGuard
import Derived.Test.YtmaaniokfpkbjaaRca
import Derived.Test.YtmaaniokfpkbjaaAny
set_option linter.unusedSimpArgs false
set_option linter.unusedVariables false
namespace Go.Proofs.Ytmaaniokfpkbjaa
open Go.RowKit

/-- Whether a case of a row is right, at its place. -/
def rkx (xs : List Ca) (k : Nat) (x : Ca) : Bool := rcB x && !(opB x && (fnI (fnd x.a xs) != (k : Int)))
def rk (xs : List Ca) (k : Nat) : Bool := match xs[k]? with
  | some x => rkx xs k x
  | none => true
theorem rk_at {xs : List Ca} {k : Nat} {x : Ca} (h : xs[k]? = some x) : rk xs k = rkx xs k x := by unfold rk; rw [h]
def rgB (xs : List Ca) : Bool := decide (xs.length ≤ 16) && (List.range xs.length).all (rk xs)
theorem rk_all (xs : List Ca) (k : Nat) : (List.range (k + 1)).all (rk xs) = ((List.range k).all (rk xs) && rk xs k) := by
  rw [List.range_succ, List.all_append]; simp
theorem all_no {xs : List Ca} {k : Nat} (hk : k < xs.length) (h : rk xs k = false) : (List.range xs.length).all (rk xs) = false := by
  rw [Bool.eq_false_iff]
  intro hc
  rw [List.all_eq_true] at hc
  have := hc k (List.mem_range.2 hk)
  rw [h] at this; cases this
theorem rgB_no {xs : List Ca} {k : Nat} (hk : k < xs.length) (h : rk xs k = false) : rgB xs = false := by
  unfold rgB
  rw [all_no hk h, Bool.and_false]

set_option maxRecDepth 100000 in
set_option maxHeartbeats 8000000 in
theorem right_row (A : Option Addr) (xs : List Ca) (cap : Nat) (w : World) (h : Rw eA w A xs) (hcap : xs.length ≤ cap) :
    Calls Try.prog 16 #[.slice A xs.length cap] w fun e w' => e = .returned (.bool (rgB xs)) ∧ Below w.heap.size w w' := by
  have hln := h.1
  have R := Lib.hid h
  have HNO := Lib.hid (fun k => @rgB_no xs k)
  have HRG := Lib.hid (show rgB xs = _ by unfold rgB; rfl)
  have HAT := Lib.hid fun k (hk : k < xs.length) => at_of_lt hk
  have HRK := Lib.hid fun k x => @rk_at xs k x
  have HRC := Lib.hid fun x W => rightCase_any x W
  have HOP := Lib.hid fun x W => open_any x W
  have HFI := Lib.hid fun a W hR => find_any a A xs cap W hR
  clear h
  by_cases h16 : 16 < xs.length
  · have HF := Lib.hid (show rgB xs = false by rw [HRG.out, decide_eq_false (by omega)]; rfl)
    generalize xs.length = L at *
    go_enter Try.func16, Try.ntmps16
    go_wp2_with fail
    go_ret
    exact ⟨by rw [HF.out]; rfl, Below.refl _ _⟩
  · have h16' : xs.length ≤ 16 := by omega
    rw [decide_eq_true h16', Bool.true_and] at HRG
    obtain ⟨L, hL⟩ : ∃ L, xs.length = L := ⟨_, rfl⟩
    have HL := Lib.hid hL
    rw [hL] at hln hcap HRG HNO h16 h16' HAT HFI ⊢
    clear hL
    go_enter Try.func16, Try.ntmps16
    go_wp2_with fail
    go_loopw [10] (fun i wr => ∃ k : Nat, i = .int .i64 k ∧ k ≤ L ∧ Hid (Below w.heap.size w wr) ∧ Hid ((List.range k).all (rk xs) = true)) (fun i _ => L - (intOf i).toNat)
    case atStart => exact ⟨0, rfl, by omega, Lib.hid (Below.refl _ _), Lib.hid rfl⟩
    case round =>
      obtain ⟨k, rfl, hk, HW, HF⟩ := hrel
      by_cases hkL : k < L
      · obtain ⟨x, hx⟩ := HAT.out k hkL
        obtain ⟨y, rfl⟩ := rw_some R.out (by rw [HL.out]; omega)
        have RW := Lib.hid (R.out.below HW.out)
        have hat := RW.out.at hx
        have Q1 := Lib.hid (qb_box wr x)
        have B1 := Lib.hid (show Below w.heap.size w (wr.alloc (Cax x)) from HW.out.alloc HW.out.size _)
        have R1 := Lib.hid (RW.out.below ((Below.refl _ wr).alloc (Nat.le_refl _) (Cax x)))
        have hsz : wr.heap.size < (wr.alloc (Cax x)).heap.size := by simp
        have HKK := Lib.hid (show rk xs k = (rcB x && !(opB x && (fnI (fnd x.a xs) != (k : Int)))) from HRK.out k x hx)
        have HRX := Lib.hid (HRC.out x)
        have HOX := Lib.hid (HOP.out x)
        have HFX := Lib.hid (HFI.out x.a)
        obtain ⟨b1, hb1⟩ : ∃ b, rcB x = b := ⟨_, rfl⟩
        obtain ⟨b2, hb2⟩ : ∃ b, opB x = b := ⟨_, rfl⟩
        obtain ⟨F, hF⟩ : ∃ F, fnI (fnd x.a xs) = F := ⟨_, rfl⟩
        rw [hb1] at HKK HRX
        rw [hb2] at HKK HOX
        rw [hF] at HKK HFX
        clear hx hb1 hb2 hF
        unfold cav Cax at *
        go_upto_region 6 with (refine at_load37 (.tmp 13) rfl rfl (y.add (k * 4)) x rfl hat ?_)
        generalize wr.alloc (.cells #[.int .u32 x.a, .int .i64 x.r, .int .i64 x.d, .int .i64 x.g] 37) = W at *
        clear hat RW
        go_wp2_with (refine at_load37 (.tmp 4) rfl rfl _ x rfl Q1.out.at ?_)
        refine (HRX.out _).mono ?_
        rintro e w2 ⟨rfl, hb⟩
        have B2 := Lib.hid (B1.out.trans (hb.mono B1.out.size))
        have Q2 := Lib.hid (Q1.out.below hb)
        have R2 := Lib.hid (R1.out.below hb)
        clear hb B1 Q1 R1
        cases b1
        · have HKF := Lib.hid (show rk xs k = false by rw [HKK.out]; rfl)
          have B9 := B2
          go_wp2_with fail
          go_ret
          exact ⟨by rw [HNO.out k hkL HKF.out]; rfl, B9.out⟩
        · go_wp2_with (refine at_load37g (.tmp 4) _ x rfl ?_ rfl Q2.out.at ?_; (with_reducible rfl))
          refine (HOX.out _).mono ?_
          rintro e w3 ⟨rfl, hb⟩
          have B3 := Lib.hid (B2.out.trans (hb.mono B2.out.size))
          have Q3 := Lib.hid (Q2.out.below hb)
          have R3 := Lib.hid (R2.out.below hb)
          clear hb B2 Q2 R2
          cases b2
          · have HKT := Lib.hid (show rk xs k = true by rw [HKK.out]; rfl)
            have B9 := B3
            go_wp2_with fail
            go_roundw
            case rel => exact ⟨k + 1, by go_num, by omega, B9, Lib.hid (by rw [rk_all, HF.out, HKT.out]; rfl)⟩
            case measure => simp [intOf]; omega
          · obtain ⟨q0, -, -, -⟩ := Q3.out.c
            go_wp2_with fail
            refine (HFX.out _ R3.out).mono ?_
            rintro e w4 ⟨rfl, hb⟩
            have B9 := Lib.hid (B3.out.trans (hb.mono B3.out.size))
            clear hb q0 B3 Q3
            cases hne : (F != (k : Int))
            · have HKT := Lib.hid (show rk xs k = true by rw [HKK.out, hne]; rfl)
              go_wp2_with fail
              go_roundw
              case rel => exact ⟨k + 1, by go_num, by omega, B9, Lib.hid (by rw [rk_all, HF.out, HKT.out]; rfl)⟩
              case measure => simp [intOf]; omega
            · have HKF := Lib.hid (show rk xs k = false by rw [HKK.out, hne]; rfl)
              go_wp2_with fail
              go_ret
              exact ⟨by rw [HNO.out k hkL HKF.out]; rfl, B9.out⟩
      · obtain rfl : k = L := by omega
        go_wp2_with fail
        go_ret
        exact ⟨by rw [HRG.out, HF.out]; rfl, HW.out⟩
end Go.Proofs.Ytmaaniokfpkbjaa
