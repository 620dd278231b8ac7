/-
  StatusOld's walk: it returns true, and nothing that lay in memory is touched. Conditions: numbers are bytes, and lie in memory.
-/
import Derived.Test.YtpiieagdgickgaaSem
import Derived.Deep.CutRange
import Derived.Lib.QuietBelow
set_option linter.unusedSimpArgs false
set_option linter.unusedVariables false
namespace Go.Proofs.Ytpiieagdgickgaa
open Go.RowKit

theorem sgs_nil {xs : List Sn} (h : sgs xs = []) : xs.take 12 = [] := by
  unfold sgs at h
  have := congrArg List.length h
  rw [sgL_length] at this
  exact List.eq_nil_of_length_eq_zero this
/-- The last tick of the sightings, and that all are up to it. -/
theorem sgs_last (xs : List Sn) : ∃ T : Int, 0 ≤ T ∧ T ≤ 84 ∧ (∀ s ∈ sgs xs, 0 ≤ s.t ∧ s.t ≤ T) ∧ (∀ s, (sgs xs).getLast? = some s → s.t = T) ∧ (sgs xs = [] → T = 0) := by
  have h1 := sm_in (xs.take 12)
  rw [List.length_take] at h1
  refine ⟨sm (xs.take 12), h1.1, by omega, fun s hs => ?_, fun s hs => ?_, fun h => ?_⟩
  · have := sgL_in _ _ s hs
    omega
  · by_cases h : xs.take 12 = []
    · unfold sgs at hs
      rw [h] at hs
      simp [sgL] at hs
    · obtain ⟨s', h2, h3⟩ := sgL_last (xs.take 12) 0 h
      unfold sgs at hs
      rw [h2] at hs
      injection hs with hs
      subst hs
      omega
  · rw [sgs_nil h]
    rfl
set_option maxRecDepth 100000 in
set_option maxHeartbeats 8000000 in
theorem statusOld_walk (y : Hc) (A : Option Addr) (xs : List Sn) (cap : Nat) (held : Bool) (n : Int) (w : World) (hy : y.Ok) (hr : Rw eN w A xs) (hok : ∀ x ∈ xs, x.ok) (hcap : xs.length ≤ cap) (hn0 : 0 ≤ n) (hn1 : n < 65536) :
    Calls Try.prog 6 #[hv y, .slice A xs.length cap, .bool held, .int .u16 n] w fun e w' => e = .returned (.bool true) ∧ Below w.heap.size w w' := by
  have HTT := Lib.hid (sgs_last xs)
  have HAW := Lib.hid awake_any
  have HCH := Lib.hid fun W => choice_any y W hy
  have HSI := Lib.hid fun W (hW : Rw eN W A xs) => sights_any A xs cap W hW hok hcap
  have HIN := Lib.hid (ch_in y hy)
  have HLL := sgs_le xs
  skip
  have B0 := Lib.hid (show Below w.heap.size w (w.alloc (Hcx y)) from (Below.refl _ w).alloc (Nat.le_refl _) _)
  have H0 := Lib.hid (hb_box w y)
  have R0 := Lib.hid (hr.below B0.out)
  obtain ⟨C, hC⟩ : ∃ C, ch y = C := ⟨_, rfl⟩
  rw [hC] at HCH HIN
  obtain ⟨zs, hzs⟩ : ∃ zs, sgs xs = zs := ⟨_, rfl⟩
  have HZS := Lib.hid hzs
  rw [hzs] at HSI HLL
  skip
  skip
  obtain ⟨ya, yb, yc, yd, ye, yf, yg, yh, yi⟩ := y
  simp only [hv, Hcx] at HCH B0 H0 R0 ⊢
  clear hy hok hr hcap hC hzs 
  go_enter Try.func6, Try.ntmps6
  go_upto_region 1 with fail
  change (Code.region _ _ _).wp _ _ _ (w.alloc (.cells #[.int .u8 ya, .int .u8 yb, .int .u8 yc, .int .u8 yd, .int .u8 ye, .int .u8 yf, .int .u8 yg, .int .u8 yh, .int .u8 yi] 23))
  generalize w.alloc (.cells #[.int .u8 ya, .int .u8 yb, .int .u8 yc, .int .u8 yd, .int .u8 ye, .int .u8 yf, .int .u8 yg, .int .u8 yh, .int .u8 yi] 23) = W0 at *
  go_wp2_with fail
  refine (HAW.out _).mono ?_
  rintro e w1 ⟨rfl, hb⟩
  have B1 := Lib.hid (bthen B0.out hb B0.out.size)
  have H1 := Lib.hid (H0.out.below hb)
  have R1 := Lib.hid (R0.out.below hb)
  clear hb B0 H0 R0
  have k0 := H1.out.c0
  have k1 := H1.out.c1
  have k2 := H1.out.c2
  have k3 := H1.out.c3
  have k4 := H1.out.c4
  have k5 := H1.out.c5
  have k6 := H1.out.c6
  have k7 := H1.out.c7
  have k8 := H1.out.c8
  dsimp only at k0 k1 k2 k3 k4 k5 k6 k7 k8
  go_wp2_with fail
  refine (HCH.out _).mono ?_
  rintro e w2 ⟨rfl, hb⟩
  have B2 := Lib.hid (bthen B1.out hb B1.out.size)
  have R2 := Lib.hid (R1.out.below hb)
  clear hb B1 H1 R1 k0 k1 k2 k3 k4 k5 k6 k7 k8
  go_wp2_with fail
  refine (HSI.out _ R2.out).mono ?_
  rintro e w3 ⟨v3, rfl, ho, hb⟩
  obtain ⟨A1, c1, rfl, hc1, hm1', h1, -⟩ := own_at (E := eS) ho (by omega)
  have B3 := Lib.hid (bthen B2.out hb B2.out.size)
  have S3 := Lib.hid h1
  have P3 := Lib.hid (cb_box w3 zf)
  have D3 := Lib.hid (show Below w3.heap.size w3 (w3.alloc (Cfx zf)) from (Below.refl _ _).alloc (Nat.le_refl _) _)
  have HS3 := Lib.hid B3.out.size
  clear ho hb B2 R2 h1 HSI HCH HAW
  go_upto_region 4 with (refine at_store27 _ _ _ zf C P3.out rfl rfl rfl rfl ?_; intro w4 P4 B4)
  have D4 := Lib.hid (D3.out.trans (B4.out _ (Nat.le_refl _)))
  have C4 := Lib.hid P4.out.cm
  have E4 := Lib.hid (bthen B3.out D4.out B3.out.size)
  have S4 := Lib.hid (S3.out.below D4.out)
  clear P3 D3 B4 D4 B3 S3 P4
  generalize w3.heap.size = b at *
  go_upto_if 20 with fail
  go_cut [11] from 21 to 22 (fun v wc => ∃ h, v = hp h ∧ h.map (·.2) = (if held then some zm else none) ∧ Hid (HP wc h ∧ Below w4.heap.size w4 wc))
  case first =>
    cases held
    · go_wp2_with fail
      go_meet
      exact ⟨none, rfl, rfl, Lib.hid ⟨trivial, Below.refl _ _⟩⟩
    · have HBM := Lib.hid (hm_box w4 0 (.string ⟨#[111]⟩) zm)
      simp only [Hx, zm] at HBM
      go_wp2_with fail
      go_meet
      exact ⟨some (w4.heap.size, zm), rfl, rfl, Lib.hid ⟨HBM.out, (Below.refl _ _).alloc (Nat.le_refl _) _⟩⟩
  case rest =>
    obtain ⟨h, rfl, hh, HH⟩ := hcut
    have E5 := Lib.hid (bthen E4.out HH.out.2 E4.out.size)
    have C5 := Lib.hid (C4.out.below HH.out.2)
    have S5 := Lib.hid (S4.out.below HH.out.2)
    have P5 := Lib.hid HH.out.1
    have HHM := Lib.hid hh
    have HCC := Lib.hid (show C.c ≤ 1099511627776 by have := HIN.out; omega)
    clear HH hh E4 C4 S4
    generalize hHP : hp h = hv' at *
    have HHP := Lib.hid hHP
    clear hHP
    obtain ⟨T, hT0, hT1, hTA, hTL, hTN⟩ := HTT.out
    rw [HZS.out] at hTA hTL hTN
    obtain ⟨q0, q1, q2, q3, q4, q5⟩ := HIN.out
    have HOF := Lib.hid fun t W (hP : HP W h) (hR : Rw eS W A1 zs) => of_any C h A1 zs c1 t W hP hR hc1 (by omega) HCC.out
    rw [HHP.out, HHM.out] at HOF
    have HF0 := Lib.hid fun (t : Int) (h1 : T + C.b ≤ t) (h2 : t ≤ 1099511627776) => st_free (x := C) (ss := zs) (now := t) (by omega) (fun s hs => ⟨(hTA s hs).1, by have := hTA s hs; omega⟩) h2
    have HF1 := Lib.hid fun (t : Int) => st_planned (x := C) (now := t) q4
    have HF3 := Lib.hid fun (s : Sg) (hs : zs.getLast? = some s) (t : Int) (h1 : T + C.b ≤ t) (h2 : t ≤ 1099511627776) => st_stale (x := C) (now := t) hs q4 (by omega) q2 (fun s hs => ⟨(hTA s hs).1, by have := hTA s hs; omega⟩) (by rw [hTL s hs]; exact h1) h2
    have HTL := Lib.hid hTL
    have HTN := Lib.hid hTN
    have hb0 : 0 ≤ C.b := by omega
    simp only [cfv] at HOF
    clear hTA hTL hTN
    obtain ⟨L, hL⟩ : ∃ L, zs.length = L := ⟨_, rfl⟩
    have HL := Lib.hid hL
    rw [hL] at HOF hc1 HLL ⊢
    clear hL
    have k0 := C5.out.c0
    have k1 := C5.out.c1
    have k2 := C5.out.c2
    have k3 := C5.out.c3
    have k4 := C5.out.c4
    have k5 := C5.out.c5
    have k6 := C5.out.c6
    have k7 := C5.out.c7
    have k8 := C5.out.c8
    rcases L with _ | J
    · obtain rfl : zs = [] := List.eq_nil_of_length_eq_zero HL.out
      obtain rfl := HTN.out rfl
      cases held
      · rw [if_neg (by simp)] at HOF
        have HW1 := Lib.hid fun (t : Int) (h1 : 0 + C.b ≤ t) (h2 : t ≤ 1099511627776) => HF0.out t h1 h2
        go_wp2_with fail
        refine (HOF.out _ _ P5.out S5.out).mono ?_
        rw [HW1.out _ (by omega) (by omega)]
        rintro e w6 ⟨rfl, hb⟩
        have E6 := Lib.hid (bthen E5.out hb E5.out.size)
        have C6 := Lib.hid (C5.out.below hb)
        have S6 := Lib.hid (S5.out.below hb)
        have P6 := Lib.hid (P5.out.below hb)
        clear hb k0 k1 k2 k3 k4 k5 k6 k7 k8
        have k0 := C6.out.c0
        have k1 := C6.out.c1
        have k2 := C6.out.c2
        have k3 := C6.out.c3
        have k4 := C6.out.c4
        have k5 := C6.out.c5
        have k6 := C6.out.c6
        have k7 := C6.out.c7
        have k8 := C6.out.c8
        go_wp2_with fail
        refine (HOF.out _ _ P6.out S6.out).mono ?_
        rw [HW1.out _ (by omega) (by omega)]
        rintro e w7 ⟨rfl, hb⟩
        have E7 := Lib.hid (bthen E6.out hb E6.out.size)
        clear hb k0 k1 k2 k3 k4 k5 k6 k7 k8
        go_wp2_with fail
        go_ret
        exact ⟨rfl, E7.out⟩
      · rw [if_pos rfl] at HOF
        have HW1 := Lib.hid fun (t : Int) (h1 : 0 + C.b ≤ t) (h2 : t ≤ 1099511627776) => HF1.out t
        go_wp2_with fail
        refine (HOF.out _ _ P5.out S5.out).mono ?_
        rw [HW1.out _ (by omega) (by omega)]
        rintro e w6 ⟨rfl, hb⟩
        have E6 := Lib.hid (bthen E5.out hb E5.out.size)
        have C6 := Lib.hid (C5.out.below hb)
        have S6 := Lib.hid (S5.out.below hb)
        have P6 := Lib.hid (P5.out.below hb)
        clear hb k0 k1 k2 k3 k4 k5 k6 k7 k8
        have k0 := C6.out.c0
        have k1 := C6.out.c1
        have k2 := C6.out.c2
        have k3 := C6.out.c3
        have k4 := C6.out.c4
        have k5 := C6.out.c5
        have k6 := C6.out.c6
        have k7 := C6.out.c7
        have k8 := C6.out.c8
        go_wp2_with fail
        refine (HOF.out _ _ P6.out S6.out).mono ?_
        rw [HW1.out _ (by omega) (by omega)]
        rintro e w7 ⟨rfl, hb⟩
        have E7 := Lib.hid (bthen E6.out hb E6.out.size)
        clear hb k0 k1 k2 k3 k4 k5 k6 k7 k8
        go_wp2_with fail
        go_ret
        exact ⟨rfl, E7.out⟩
    · obtain ⟨s, hs⟩ : ∃ s, zs[J]? = some s := ⟨_, List.getElem?_eq_getElem (by rw [HL.out]; omega)⟩
      obtain ⟨y, rfl⟩ := rw_some S5.out (by rw [HL.out]; omega)
      have hla : zs.getLast? = some s := by rw [List.getLast?_eq_getElem?, HL.out, show J + 1 - 1 = J by omega, hs]
      have hat := S5.out.at hs
      have j7 : wc.cell? ⟨(y.add (J * 8)).block, (y.add (J * 8)).off + 7, none⟩ = some (.int .i64 T) := by
        have := hat 7 _ rfl
        rw [HTL.out s hla] at this
        exact this
      have HLA := Lib.hid hla
      have hj : IntKind.i64.wrap (J : Int) = (J : Int) := i64_nat (by omega)
      clear hs hat hla
      cases held
      · rw [if_neg (by simp)] at HOF
        have HW1 := Lib.hid fun (t : Int) (h1 : T + C.b ≤ t) (h2 : t ≤ 1099511627776) => HF0.out t h1 h2
        go_wp2_with fail
        refine (HOF.out _ _ P5.out S5.out).mono ?_
        rw [HW1.out _ (by omega) (by omega)]
        rintro e w6 ⟨rfl, hb⟩
        have E6 := Lib.hid (bthen E5.out hb E5.out.size)
        have C6 := Lib.hid (C5.out.below hb)
        have S6 := Lib.hid (S5.out.below hb)
        have P6 := Lib.hid (P5.out.below hb)
        clear hb k0 k1 k2 k3 k4 k5 k6 k7 k8
        have k0 := C6.out.c0
        have k1 := C6.out.c1
        have k2 := C6.out.c2
        have k3 := C6.out.c3
        have k4 := C6.out.c4
        have k5 := C6.out.c5
        have k6 := C6.out.c6
        have k7 := C6.out.c7
        have k8 := C6.out.c8
        go_wp2_with fail
        refine (HOF.out _ _ P6.out S6.out).mono ?_
        rw [HW1.out _ (by omega) (by omega)]
        rintro e w7 ⟨rfl, hb⟩
        have E7 := Lib.hid (bthen E6.out hb E6.out.size)
        clear hb k0 k1 k2 k3 k4 k5 k6 k7 k8
        go_wp2_with fail
        go_ret
        exact ⟨rfl, E7.out⟩
      · rw [if_pos rfl] at HOF
        have HW1 := Lib.hid fun (t : Int) (h1 : T + C.b ≤ t) (h2 : t ≤ 1099511627776) => HF3.out s HLA.out t h1 h2
        go_wp2_with fail
        refine (HOF.out _ _ P5.out S5.out).mono ?_
        rw [HW1.out _ (by omega) (by omega)]
        rintro e w6 ⟨rfl, hb⟩
        have E6 := Lib.hid (bthen E5.out hb E5.out.size)
        have C6 := Lib.hid (C5.out.below hb)
        have S6 := Lib.hid (S5.out.below hb)
        have P6 := Lib.hid (P5.out.below hb)
        clear hb k0 k1 k2 k3 k4 k5 k6 k7 k8
        have k0 := C6.out.c0
        have k1 := C6.out.c1
        have k2 := C6.out.c2
        have k3 := C6.out.c3
        have k4 := C6.out.c4
        have k5 := C6.out.c5
        have k6 := C6.out.c6
        have k7 := C6.out.c7
        have k8 := C6.out.c8
        go_wp2_with fail
        refine (HOF.out _ _ P6.out S6.out).mono ?_
        rw [HW1.out _ (by omega) (by omega)]
        rintro e w7 ⟨rfl, hb⟩
        have E7 := Lib.hid (bthen E6.out hb E6.out.size)
        clear hb k0 k1 k2 k3 k4 k5 k6 k7 k8
        go_wp2_with fail
        go_ret
        exact ⟨rfl, E7.out⟩
end Go.Proofs.Ytpiieagdgickgaa
