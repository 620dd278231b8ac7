/-
  The contract of the statements' own 'right'. Conditions: the row lies in memory, and addresses are numbers of 32 bits.
-/
import Derived.BigGuard
import Derived.Test.YtjjbkhelnmdfnaaRgt
set_option linter.unusedSimpArgs false
set_option linter.unusedVariables false
namespace Go.Proofs.Ytjjbkhelnmdfnaa
open Go.RowKit

/-- All addresses of a row are numbers of 32 bits. -/
def Au (xs : List Pr) : Prop := ∀ x ∈ xs, 0 ≤ x.a ∧ x.a < 4294967296
theorem cl_iff (t : Int) : t = cl t ↔ 0 ≤ t ∧ t ≤ 1099511627776 := by
  constructor
  · intro h; rw [h]; exact ⟨cl_ge t, cl_le t⟩
  · rintro ⟨h0, h1⟩; exact (cl_in h0 h1).symm
theorem rqB_eq (x : Pr) : rqB x = (decide (x.i = x.a % 65536) && decide (0 ≤ x.s) && decide (x.s ≤ 65535) && decide (0 ≤ x.t) && decide (x.t ≤ 1099511627776) && decide (0 ≤ x.n) && decide (x.n ≤ 8)) := by
  unfold rqB
  rw [show decide (x.t = cl x.t) = (decide (0 ≤ x.t) && decide (x.t ≤ 1099511627776)) by rw [← Bool.decide_and]; exact decide_eq_decide.2 (cl_iff _)]
  simp only [Bool.and_assoc]
theorem all_lg (xs : List Pr) : ((List.range xs.length).all (rk xs) && decide (xs.length ≤ 16)) = rgB xs := by unfold rgB; rw [Bool.and_comm]

set_option maxRecDepth 100000 in
set_option maxHeartbeats 8000000 in
theorem lright_any (A : Option Addr) (xs : List Pr) (cap : Nat) (w : World) (h : Rw eP w A xs) (hcap : xs.length ≤ cap) (hu : Au xs) :
    Calls Try.prog 21 #[.slice A xs.length cap] w fun e w' => e = .returned (.bool (rgB xs)) ∧ Below w.heap.size w w' := by
  have hln := h.1
  have R := Lib.hid h
  have HU := Lib.hid hu
  have HNO := Lib.hid (fun k => @rgB_no xs k)
  have HRG := Lib.hid (all_lg xs).symm
  have HSL := Lib.hid (fun n c i hi W => run_sl29 A n c i hi W)
  clear h hu
  obtain ⟨L, hL⟩ : ∃ L, xs.length = L := ⟨_, rfl⟩
  have HL := Lib.hid hL
  rw [hL] at hln hcap HRG HNO ⊢
  clear hL
  go_enter Try.func21, Try.ntmps21
  go_wp2_with fail
  go_loopw [9] (fun i wr => ∃ k : Nat, i = .int .i64 k ∧ k ≤ L ∧ Hid (Below w.heap.size w wr) ∧ Hid ((List.range k).all (rk xs) = true)) (fun i _ => L - (intOf i).toNat)
  case atStart => exact ⟨0, rfl, by omega, Lib.hid (Below.refl _ _), Lib.hid rfl⟩
  case round =>
    obtain ⟨k, rfl, hk, HW, HF⟩ := hrel
    by_cases hkL : k < L
    · obtain ⟨x, hx⟩ := at_of_lt (xs := xs) (k := k) (by rw [HL.out]; exact hkL)
      obtain ⟨y, rfl⟩ := rw_some R.out (by rw [HL.out]; omega)
      have RW := Lib.hid (R.out.below HW.out)
      have hat := RW.out.at hx
      obtain ⟨u0, u1⟩ := HU.out x (List.mem_of_getElem? hx)
      have HX := Lib.hid hx
      have Q1 := Lib.hid (qb_box wr x)
      have hsz : wr.heap.size < (wr.alloc (Prx x)).heap.size := by simp
      have B1 := Lib.hid (show Below w.heap.size w (wr.alloc (Prx x)) from HW.out.alloc HW.out.size _)
      have R1 := Lib.hid (RW.out.below ((Below.refl _ wr).alloc (Nat.le_refl _) (Prx x)))
      have HKK := Lib.hid (show rk xs k = (rqB x && !toB (xs.take k) x.a) by unfold rk; rw [hx])
      have e1 : (xs.take k).length = k := by rw [List.length_take, HL.out]; omega
      have HTK := Lib.hid (show ∀ (q : Nat) (z : Pr), (xs.take k)[q]? = some z → toB ((xs.take k).take (q + 1)) x.a = (toB ((xs.take k).take q) x.a || (z.a == x.a)) from fun q z hz => to_take hz)
      have HTY := Lib.hid (show ∀ (q : Nat) (z : Pr), (xs.take k)[q]? = some z → (z.a == x.a) = true → toB (xs.take k) x.a = true from fun q z hz h => to_yes hz h)
      have RSL := HSL.out L cap k (by omega)
      clear hx
      unfold Prx at *
      go_upto_region 4 with (refine at_load37 (.tmp 12) rfl rfl (y.add (k * 5)) x rfl hat ?_)
      generalize wr.alloc (.cells #[.int .u32 x.a, .int .i64 x.i, .int .i64 x.s, .int .i64 x.t, .int .i64 x.n] 37) = W at *
      clear hat
      go_cut [50] from 14 to 50 (fun v wc => v = .bool (!rqB x) ∧ Hid (Below W.heap.size W wc))
      case first =>
        obtain ⟨s0, s1, s2, s3, s4⟩ := Q1.out.c
        have HRQ := Lib.hid (rqB_eq x)
        have hm : x.a.tmod 65536 = x.a % 65536 := by rw [Int.tmod_eq_emod_of_nonneg u0]
        obtain ⟨a, i, s, t, n⟩ := x
        dsimp only at s0 s1 s2 s3 s4 u0 u1 HRQ hm ⊢
        by_cases h1 : i = a % 65536
        · have e1 : (i != a % 65536) = false := by simpa using h1
          have H1 := Lib.hid h1
          clear h1
          by_cases h2 : 0 ≤ s
          · have h2' : decide (s < 0) = false := decide_eq_false (by omega)
            by_cases h3 : s ≤ 65535
            · have h3' : decide (65535 < s) = false := decide_eq_false (by omega)
              by_cases h4 : 0 ≤ t
              · have h4' : decide (t < 0) = false := decide_eq_false (by omega)
                by_cases h5 : t ≤ 1099511627776
                · have h5' : decide (1099511627776 < t) = false := decide_eq_false (by omega)
                  by_cases h6 : 0 ≤ n
                  · have h6' : decide (n < 0) = false := decide_eq_false (by omega)
                    by_cases h7 : n ≤ 8
                    · have h7' : decide (8 < n) = false := decide_eq_false (by omega)
                      go_wp2_with fail
                      go_meet
                      exact ⟨by rw [HRQ.out]; simp [H1.out, h2, h3, h4, h5, h6, h7], Lib.hid (Below.refl _ _)⟩
                    · have h7' : 8 < n := by omega
                      go_wp2_with fail
                      go_meet
                      exact ⟨by rw [HRQ.out]; simp [h7, h7'], Lib.hid (Below.refl _ _)⟩
                  · have h6' : n < 0 := by omega
                    go_wp2_with fail
                    go_meet
                    exact ⟨by rw [HRQ.out]; simp [h6, h6'], Lib.hid (Below.refl _ _)⟩
                · have h5' : 1099511627776 < t := by omega
                  go_wp2_with fail
                  go_meet
                  exact ⟨by rw [HRQ.out]; simp [h5, h5'], Lib.hid (Below.refl _ _)⟩
              · have h4' : t < 0 := by omega
                go_wp2_with fail
                go_meet
                exact ⟨by rw [HRQ.out]; simp [h4, h4'], Lib.hid (Below.refl _ _)⟩
            · have h3' : 65535 < s := by omega
              go_wp2_with fail
              go_meet
              exact ⟨by rw [HRQ.out]; simp [h3, h3'], Lib.hid (Below.refl _ _)⟩
          · have h2' : s < 0 := by omega
            go_wp2_with fail
            go_meet
            exact ⟨by rw [HRQ.out]; simp [h2, h2'], Lib.hid (Below.refl _ _)⟩
        · have e1 : (i != a % 65536) = true := by simpa using h1
          go_wp2_with fail
          go_meet
          exact ⟨by rw [HRQ.out]; simp [h1], Lib.hid (Below.refl _ _)⟩
      case rest =>
        obtain ⟨rfl, HC⟩ := hcut
        have C1 := Lib.hid (B1.out.trans (HC.out.mono B1.out.size))
        have RC := Lib.hid ((R1.out.below HC.out).take k)
        have Q2 := Lib.hid (Q1.out.below HC.out)
        have hszc : wr.heap.size < wc.heap.size := Nat.lt_of_lt_of_le hsz HC.out.size
        clear Q1 HC
        cases hlr : rqB x
        · have HKF := Lib.hid (show rk xs k = false by rw [HKK.out, hlr]; rfl)
          clear hlr
          go_wp2_with fail
          go_ret
          exact ⟨by rw [HNO.out k hkL HKF.out]; rfl, C1.out⟩
        · have hkk : rk xs k = !toB (xs.take k) x.a := by rw [HKK.out, hlr]; rfl
          have HK2 := Lib.hid hkk
          clear hlr hkk
          rw [Bool.not_true]
          generalize xs.take k = zs at *
          have HE1 := Lib.hid e1
          clear e1
          go_wp2_with fail
          obtain ⟨wo, rfl⟩ : ∃ wo, wo = wr := ⟨_, rfl⟩
          go_loopw [55] (fun i wr => ∃ q : Nat, i = .int .i64 q ∧ q ≤ k ∧ Hid (Below wc.heap.size wc wr) ∧ Hid (toB (zs.take q) x.a = false)) (fun i _ => k - (intOf i).toNat)
          case atStart => exact ⟨0, rfl, by omega, Lib.hid (Below.refl _ _), Lib.hid (by simp [toB])⟩
          case round =>
            obtain ⟨q, rfl, hq, HW2, HF2⟩ := hrel
            by_cases hqk : q < k
            · obtain ⟨z, hz⟩ := at_of_lt (xs := zs) (k := q) (by rw [HE1.out]; exact hqk)
              have hat := (RC.out.below HW2.out).at hz
              have HT := Lib.hid (HTK.out q z hz)
              have HY := Lib.hid (HTY.out q z hz)
              obtain ⟨t0, -, -, -, -⟩ := ((Q2.out.below HW2.out).below ((Below.refl _ wr).alloc (Nat.le_refl _) (Prx z))).c
              have hne : wo.heap.size < wr.heap.size := Nat.lt_of_lt_of_le hszc HW2.out.size
              have B2 := Lib.hid (show Below wc.heap.size wc (wr.alloc (Prx z)) from HW2.out.alloc HW2.out.size _)
              unfold Prx at *
              clear hz
              cases he : (z.a == x.a)
              · have HE := Lib.hid he
                go_wp2_with (refine at_load37 (.tmp 57) rfl rfl (y.add (q * 5)) z rfl hat ?_)
                go_roundw
                case rel => exact ⟨q + 1, by go_num, by omega, B2, Lib.hid (by rw [HT.out, HF2.out, HE.out]; rfl)⟩
                case measure => simp [intOf]; omega
              · have HE := Lib.hid he
                go_wp2_with (refine at_load37 (.tmp 57) rfl rfl (y.add (q * 5)) z rfl hat ?_)
                go_ret
                exact ⟨by rw [HNO.out k hkL (by rw [HK2.out, HY.out HE.out]; rfl)]; rfl, C1.out.trans (B2.out.mono C1.out.size)⟩
            · obtain rfl : k = q := by omega
              have hfull : zs.take k = zs := List.take_of_length_le (by rw [HE1.out]; exact Nat.le_refl _)
              have HKT := Lib.hid (show rk xs k = true by rw [HK2.out, ← hfull, HF2.out]; rfl)
              clear hfull
              go_wp2_with fail
              go_roundw
              case rel => exact ⟨k + 1, by go_num, by omega, Lib.hid (C1.out.trans (HW2.out.mono C1.out.size)), Lib.hid (by rw [rk_all, HF.out, HKT.out]; rfl)⟩
              case measure => simp [intOf]; omega
    · obtain rfl : k = L := by omega
      have HQ := Lib.hid (show rgB xs = decide (k ≤ 16) by rw [HRG.out, HF.out, Bool.true_and])
      go_wp2_with fail
      go_ret
      refine ⟨?_, HW.out⟩
      rw [HQ.out]
      by_cases h16 : k ≤ 16
      · simp [h16]; try omega
      · simp [h16]; try omega
end Go.Proofs.Ytjjbkhelnmdfnaa
