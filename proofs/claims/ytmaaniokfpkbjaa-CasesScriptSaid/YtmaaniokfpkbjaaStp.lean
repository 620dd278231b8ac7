/-
  The contracts of cases.step, and of Approve, Reject, Done and Cancel. Conditions: the row lies in memory, and has up tg 900 cases.
-/
import Derived.BigGuard
import Derived.Test.YtmaaniokfpkbjaaMov
set_option linter.unusedSimpArgs false
set_option linter.unusedVariables false
namespace Go.Proofs.Ytmaaniokfpkbjaa
open Go.RowKit

set_option maxRecDepth 100000 in
set_option maxHeartbeats 8000000 in
theorem step_any (fr tg now a : Int) (A : Option Addr) (xs : List Ca) (cap : Nat) (w : World) (h : Rw eA w A xs) (hc : xs.length ≤ cap) (hx9 : xs.length ≤ 900) :
    Calls Try.prog 37 #[.slice A xs.length cap, .int .u32 a, .int .i64 fr, .int .i64 tg, .int .i64 now] w (OutPost w (stO (fun g => g == fr) tg now a xs).1 (stO (fun g => g == fr) tg now a xs).2) := by
  have hln := h.1
  have HF := Lib.hid (find_any a A xs cap w h)
  have R := Lib.hid h
  have HST := Lib.hid (show stO (fun g => g == fr) tg now a xs = _ by unfold stO; rfl)
  have HMV := Lib.hid fun i W hR hi => moveAt_any tg now A xs cap i W hR hc hx9 hi
  have HAT := Lib.hid fun i (hi : fnd a xs = some i) => fnd_lt hi
  have HML := Lib.hid fun i => mvA_len xs i tg now
  cases hB : fnd a xs with
  | none =>
    rw [hB] at HF HST
    dsimp only [fnI] at HF
    obtain ⟨s, hs⟩ : ∃ s, stO (fun g => g == fr) tg now a xs = s := ⟨_, rfl⟩
    have HT := Lib.hid (show s = ([], 7) by rw [← hs, HST.out])
    rw [hs, HT.out]
    clear HST hs hB h HMV HAT HML
    generalize xs.length = L at *
    go_enter Try.func37, Try.ntmps37
    go_wp2_with fail
    refine HF.out.mono ?_
    rintro e w1 ⟨rfl, hb⟩
    have B1 := Lib.hid hb
    clear hb
    go_wp2_with fail
    go_ret2
    exact out_no w w1 7 B1.out
  | some i =>
    have hi := HAT.out i hB
    have HMI := Lib.hid fun W hR => HMV.out i W hR hi
    have HLI := Lib.hid (HML.out i)
    rw [hB] at HF HST
    dsimp only [fnI] at HF
    obtain ⟨x, hx⟩ := at_of_lt hi
    have hxd : xs.getD i zc = x := by rw [List.getD_eq_getElem?_getD, hx]; rfl
    obtain ⟨y, rfl⟩ := rw_some R.out (by omega)
    have HX := Lib.hid hx
    dsimp only at HST
    rw [hxd] at HST
    obtain ⟨s, hs⟩ : ∃ s, stO (fun g => g == fr) tg now a xs = s := ⟨_, rfl⟩
    rw [hs] at HST ⊢
    clear hs hB h HMV HAT HML hxd hx
    generalize mvA xs i tg now = ys at *
    obtain ⟨L, hL⟩ : ∃ L, xs.length = L := ⟨_, rfl⟩
    rw [hL] at hln hc hx9 hi HF HMI HLI ⊢
    clear hL
    cases hg : (x.g == fr)
    · have HT := Lib.hid (show s = ([], 8) by rw [HST.out]; exact if_neg (by rw [hg]; simp))
      have hg' : (x.g != fr) = true := by rw [bne, hg]; rfl
      rw [HT.out]
      clear HST hg
      go_enter Try.func37, Try.ntmps37
      go_wp2_with fail
      refine HF.out.mono ?_
      rintro e w1 ⟨rfl, hb⟩
      have B1 := Lib.hid hb
      obtain ⟨-, -, r3⟩ := rw_f (R.out.below hb) HX.out
      clear hb
      go_wp2_with fail
      go_ret2
      exact out_no w w1 8 B1.out
    · have HT := Lib.hid (show s = (ys, 0) by rw [HST.out]; exact if_pos hg)
      have hg' : (x.g != fr) = false := by rw [bne, hg]; rfl
      rw [HT.out]
      clear HST hg
      go_enter Try.func37, Try.ntmps37
      go_wp2_with fail
      refine HF.out.mono ?_
      rintro e w1 ⟨rfl, hb⟩
      have B1 := Lib.hid hb
      have R1 := Lib.hid (R.out.below hb)
      obtain ⟨-, -, r3⟩ := rw_f (R.out.below hb) HX.out
      clear hb
      go_wp2_with fail
      refine (HMI.out _ R1.out).mono ?_
      rintro e w2 ⟨v, rfl, ho, hb⟩
      have B2 := Lib.hid (B1.out.trans (hb.mono B1.out.size))
      have O2 := Lib.hid ho
      clear hb ho
      go_wp2_with fail
      go_ret2
      exact out_yes O2.out (by rw [HLI.out]; omega) B2.out
set_option maxRecDepth 100000 in
set_option maxHeartbeats 4000000 in
theorem approve_any (now a : Int) (A : Option Addr) (xs : List Ca) (cap : Nat) (w : World) (h : Rw eA w A xs) (hc : xs.length ≤ cap) (hx9 : xs.length ≤ 900) :
    Calls Try.prog 26 #[.slice A xs.length cap, .int .u32 a, .int .i64 now] w (OutPost w (stO (fun g => g == 0) 1 now a xs).1 (stO (fun g => g == 0) 1 now a xs).2) := by
  have HS := Lib.hid (step_any 0 1 now a A xs cap w h hc hx9)
  generalize stO (fun g => g == 0) 1 now a xs = s at *
  obtain ⟨ys, q⟩ := s
  clear h
  generalize xs.length = L at *
  go_enter Try.func26, Try.ntmps26
  go_wp2_with fail
  refine HS.out.mono ?_
  rintro e w1 ⟨A1, c1, rfl, hc1, hR, hb⟩
  have HR := Lib.hid hR
  have HB := Lib.hid hb
  have HC := Lib.hid hc1
  clear hR hb hc1
  dsimp only at *
  go_wp2_with fail
  go_ret2
  exact ⟨A1, c1, rfl, HC.out, HR.out, HB.out⟩
set_option maxRecDepth 100000 in
set_option maxHeartbeats 4000000 in
theorem reject_any (now a : Int) (A : Option Addr) (xs : List Ca) (cap : Nat) (w : World) (h : Rw eA w A xs) (hc : xs.length ≤ cap) (hx9 : xs.length ≤ 900) :
    Calls Try.prog 24 #[.slice A xs.length cap, .int .u32 a, .int .i64 now] w (OutPost w (stO (fun g => g == 0) 2 now a xs).1 (stO (fun g => g == 0) 2 now a xs).2) := by
  have HS := Lib.hid (step_any 0 2 now a A xs cap w h hc hx9)
  generalize stO (fun g => g == 0) 2 now a xs = s at *
  obtain ⟨ys, q⟩ := s
  clear h
  generalize xs.length = L at *
  go_enter Try.func24, Try.ntmps24
  go_wp2_with fail
  refine HS.out.mono ?_
  rintro e w1 ⟨A1, c1, rfl, hc1, hR, hb⟩
  have HR := Lib.hid hR
  have HB := Lib.hid hb
  have HC := Lib.hid hc1
  clear hR hb hc1
  dsimp only at *
  go_wp2_with fail
  go_ret2
  exact ⟨A1, c1, rfl, HC.out, HR.out, HB.out⟩
set_option maxRecDepth 100000 in
set_option maxHeartbeats 4000000 in
theorem done_any (now a : Int) (A : Option Addr) (xs : List Ca) (cap : Nat) (w : World) (h : Rw eA w A xs) (hc : xs.length ≤ cap) (hx9 : xs.length ≤ 900) :
    Calls Try.prog 25 #[.slice A xs.length cap, .int .u32 a, .int .i64 now] w (OutPost w (stO (fun g => g == 1) 5 now a xs).1 (stO (fun g => g == 1) 5 now a xs).2) := by
  have HS := Lib.hid (step_any 1 5 now a A xs cap w h hc hx9)
  generalize stO (fun g => g == 1) 5 now a xs = s at *
  obtain ⟨ys, q⟩ := s
  clear h
  generalize xs.length = L at *
  go_enter Try.func25, Try.ntmps25
  go_wp2_with fail
  refine HS.out.mono ?_
  rintro e w1 ⟨A1, c1, rfl, hc1, hR, hb⟩
  have HR := Lib.hid hR
  have HB := Lib.hid hb
  have HC := Lib.hid hc1
  clear hR hb hc1
  dsimp only at *
  go_wp2_with fail
  go_ret2
  exact ⟨A1, c1, rfl, HC.out, HR.out, HB.out⟩
set_option maxRecDepth 100000 in
set_option maxHeartbeats 8000000 in
theorem cancel_any (now a : Int) (A : Option Addr) (xs : List Ca) (cap : Nat) (w : World) (h : Rw eA w A xs) (hc : xs.length ≤ cap) (hx9 : xs.length ≤ 900) :
    Calls Try.prog 27 #[.slice A xs.length cap, .int .u32 a, .int .i64 now] w (OutPost w (stO (fun _ => true) 4 now a xs).1 (stO (fun _ => true) 4 now a xs).2) := by
  have hln := h.1
  have HF := Lib.hid (find_any a A xs cap w h)
  have R := Lib.hid h
  have HST := Lib.hid (show stO (fun _ => true) 4 now a xs = _ by unfold stO; rfl)
  have HMV := Lib.hid fun i W hR hi => moveAt_any 4 now A xs cap i W hR hc hx9 hi
  have HAT := Lib.hid fun i (hi : fnd a xs = some i) => fnd_lt hi
  have HML := Lib.hid fun i => mvA_len xs i 4 now
  cases hB : fnd a xs with
  | none =>
    rw [hB] at HF HST
    dsimp only [fnI] at HF
    obtain ⟨s, hs⟩ : ∃ s, stO (fun _ => true) 4 now a xs = s := ⟨_, rfl⟩
    have HT := Lib.hid (show s = ([], 7) by rw [← hs, HST.out])
    rw [hs, HT.out]
    clear HST hs hB h HMV HAT HML
    generalize xs.length = L at *
    go_enter Try.func27, Try.ntmps27
    go_wp2_with fail
    refine HF.out.mono ?_
    rintro e w1 ⟨rfl, hb⟩
    have B1 := Lib.hid hb
    clear hb
    go_wp2_with fail
    go_ret2
    exact out_no w w1 7 B1.out
  | some i =>
    have hi := HAT.out i hB
    have HMI := Lib.hid fun W hR => HMV.out i W hR hi
    have HLI := Lib.hid (HML.out i)
    rw [hB] at HF HST
    dsimp only [fnI] at HF
    obtain ⟨s, hs⟩ : ∃ s, stO (fun _ => true) 4 now a xs = s := ⟨_, rfl⟩
    rw [hs] at HST ⊢
    clear hs hB h HMV HAT HML
    have HT := Lib.hid (show s = (mvA xs i 4 now, 0) by rw [HST.out]; rfl)
    rw [HT.out]
    clear HST
    generalize mvA xs i 4 now = ys at *
    generalize xs.length = L at *
    go_enter Try.func27, Try.ntmps27
    go_wp2_with fail
    refine HF.out.mono ?_
    rintro e w1 ⟨rfl, hb⟩
    have B1 := Lib.hid hb
    have R1 := Lib.hid (R.out.below hb)
    clear hb
    go_wp2_with fail
    refine (HMI.out _ R1.out).mono ?_
    rintro e w2 ⟨v, rfl, ho, hb⟩
    have B2 := Lib.hid (B1.out.trans (hb.mono B1.out.size))
    have O2 := Lib.hid ho
    clear hb ho
    go_wp2_with fail
    go_ret2
    exact out_yes O2.out (by rw [HLI.out]; omega) B2.out
end Go.Proofs.Ytmaaniokfpkbjaa
