/-
  StatusEvict's walk: it returns true, and nothing that lay in memory is touched. Conditions: numbers are bytes, and lie in memory.
-/
import Derived.Test.YtpiieagdgickgaaSem
import Derived.Deep.CutRange
import Derived.Lib.QuietBelow
set_option linter.unusedSimpArgs false
set_option linter.unusedVariables false
namespace Go.Proofs.Ytpiieagdgickgaa
open Go.RowKit

/-- How many a slice has. -/
def slen : Value → Nat
  | .slice _ n _ => n
  | _ => 0
set_option maxRecDepth 100000 in
set_option maxHeartbeats 8000000 in
theorem statusEvict_walk (y : Hc) (A : Option Addr) (xs : List Sn) (cap : Nat) (mac : Int) (held : Bool) (now : Int) (w : World) (hy : y.Ok) (hr : Rw eN w A xs) (hok : ∀ x ∈ xs, x.ok) (hcap : xs.length ≤ cap) (hm0 : 0 ≤ mac) (hm1 : mac < 256) (hn0 : 0 ≤ now) (hn1 : now < 256) :
    Calls Try.prog 5 #[hv y, .slice A xs.length cap, .int .u8 mac, .bool held, .int .u8 now] w fun e w' => e = .returned (.bool true) ∧ Below w.heap.size w w' := by
  have HAW := Lib.hid awake_any
  have HCH := Lib.hid fun W => choice_any y W hy
  have HSI := Lib.hid fun W (hW : Rw eN W A xs) => sights_any A xs cap W hW hok hcap
  have HIN := Lib.hid (ch_in y hy)
  have HLL := sgs_le xs
  have HST := Lib.hid fun W => station_any mac W hm0 hm1
  have B0 := Lib.hid (show Below w.heap.size w (w.alloc (Hcx y)) from (Below.refl _ w).alloc (Nat.le_refl _) _)
  have H0 := Lib.hid (hb_box w y)
  have R0 := Lib.hid (hr.below B0.out)
  obtain ⟨C, hC⟩ : ∃ C, ch y = C := ⟨_, rfl⟩
  rw [hC] at HCH HIN
  obtain ⟨zs, hzs⟩ : ∃ zs, sgs xs = zs := ⟨_, rfl⟩
  have HZS := Lib.hid hzs
  rw [hzs] at HSI HLL
  obtain ⟨M, hM⟩ : ∃ M, sn mac = M := ⟨_, rfl⟩
  rw [hM] at HST
  obtain ⟨ya, yb, yc, yd, ye, yf, yg, yh, yi⟩ := y
  simp only [hv, Hcx] at HCH B0 H0 R0 ⊢
  clear hy hok hr hcap hC hzs hM
  go_enter Try.func5, Try.ntmps5
  go_upto_region 1 with fail
  change (Code.region _ _ _).wp _ _ _ (w.alloc (.cells #[.int .u8 ya, .int .u8 yb, .int .u8 yc, .int .u8 yd, .int .u8 ye, .int .u8 yf, .int .u8 yg, .int .u8 yh, .int .u8 yi] 23))
  generalize w.alloc (.cells #[.int .u8 ya, .int .u8 yb, .int .u8 yc, .int .u8 yd, .int .u8 ye, .int .u8 yf, .int .u8 yg, .int .u8 yh, .int .u8 yi] 23) = W0 at *
  go_wp2_with fail
  refine (HAW.out _).mono ?_
  rintro e w1 ⟨rfl, hb⟩
  have B1 := Lib.hid (bthen B0.out hb B0.out.size)
  have H1 := Lib.hid (H0.out.below hb)
  have R1 := Lib.hid (R0.out.below hb)
  clear hb B0 H0 R0
  have k0 := H1.out.c0
  have k1 := H1.out.c1
  have k2 := H1.out.c2
  have k3 := H1.out.c3
  have k4 := H1.out.c4
  have k5 := H1.out.c5
  have k6 := H1.out.c6
  have k7 := H1.out.c7
  have k8 := H1.out.c8
  dsimp only at k0 k1 k2 k3 k4 k5 k6 k7 k8
  go_wp2_with fail
  refine (HCH.out _).mono ?_
  rintro e w2 ⟨rfl, hb⟩
  have B2 := Lib.hid (bthen B1.out hb B1.out.size)
  have R2 := Lib.hid (R1.out.below hb)
  clear hb B1 H1 R1 k0 k1 k2 k3 k4 k5 k6 k7 k8
  go_wp2_with fail
  refine (HSI.out _ R2.out).mono ?_
  rintro e w3 ⟨v3, rfl, ho, hb⟩
  obtain ⟨A1, c1, rfl, hc1, hm1', h1, -⟩ := own_at (E := eS) ho (by omega)
  have B3 := Lib.hid (bthen B2.out hb B2.out.size)
  have S3 := Lib.hid h1
  have P3 := Lib.hid (cb_box w3 zf)
  have D3 := Lib.hid (show Below w3.heap.size w3 (w3.alloc (Cfx zf)) from (Below.refl _ _).alloc (Nat.le_refl _) _)
  have HS3 := Lib.hid B3.out.size
  clear ho hb B2 R2 h1 HSI HCH HAW
  go_upto_region 4 with (refine at_store27 _ _ _ zf C P3.out rfl rfl rfl rfl ?_; intro w4 P4 B4)
  have D4 := Lib.hid (D3.out.trans (B4.out _ (Nat.le_refl _)))
  have C4 := Lib.hid P4.out.cm
  have E4 := Lib.hid (bthen B3.out D4.out B3.out.size)
  have S4 := Lib.hid (S3.out.below D4.out)
  clear P3 D3 B4 D4 B3 S3 P4
  generalize w3.heap.size = b at *
  go_upto_if 21 with fail
  go_cut [13] from 22 to 25 (fun v wc => ∃ h, v = hp h ∧ h.map (·.2) = (if held then some M else none) ∧ Hid (HP wc h ∧ Below w4.heap.size w4 wc))
  case first =>
    cases held
    · go_wp2_with fail
      go_meet
      exact ⟨none, rfl, rfl, Lib.hid ⟨trivial, Below.refl _ _⟩⟩
    · have HBM := Lib.hid fun W => hm_box W 0 (.string ⟨#[]⟩) M
      obtain ⟨m0, m1, m2, m3, m4, m5⟩ := M
      simp only [mv, Hx] at HST HBM
      go_wp2_with fail
      refine (HST.out _).mono ?_
      rintro e w5 ⟨rfl, hb⟩
      have B5 := Lib.hid hb
      clear hb
      go_wp2_with fail
      go_meet
      exact ⟨some (w5.heap.size, ⟨m0, m1, m2, m3, m4, m5⟩), rfl, rfl, Lib.hid ⟨HBM.out w5, B5.out.alloc B5.out.size _⟩⟩
  case rest =>
    obtain ⟨h, rfl, hh, HH⟩ := hcut
    have E5 := Lib.hid (bthen E4.out HH.out.2 E4.out.size)
    have C5 := Lib.hid (C4.out.below HH.out.2)
    have S5 := Lib.hid (S4.out.below HH.out.2)
    have P5 := Lib.hid HH.out.1
    have HHM := Lib.hid hh
    have HCC := Lib.hid (show C.c ≤ 1099511627776 by have := HIN.out; omega)
    clear HH hh E4 C4 S4
    generalize hHP : hp h = hv' at *
    have HHP := Lib.hid hHP
    clear hHP
    have HOF := Lib.hid fun ys B c W (hP : HP W h) (hR : Rw eS W B ys) (hl : ys.length ≤ c) (hx : ys.length ≤ 12) => of_any C h B ys c now W hP hR hl (by omega) HCC.out
    rw [HHP.out] at HOF
    have HDR := Lib.hid fun ys => stO_drop C (h.map (·.2)) ys now
    obtain ⟨T, hT⟩ : ∃ T, stO C (h.map (·.2)) zs now = T := ⟨_, rfl⟩
    have HT := Lib.hid hT
    have HO1 := Lib.hid fun W (hP : HP W h) (hR : Rw eS W A1 zs) => hT ▸ HOF.out zs A1 c1 W hP hR hc1 HLL
    simp only [cfv] at HO1 HOF
    have q0 : 1 ≤ C.c := HIN.out.2.2.2.2.1
    have q1 : C.c ≤ 6 := HIN.out.2.2.2.2.2
    clear hT
    go_upto_region 7 with fail
    go_wp2_with (refine at_load27 (.tmp 11) rfl rfl ⟨b, 0, none⟩ C rfl C5.out.at ?_)
    refine (HO1.out _ P5.out S5.out).mono ?_
    rintro e w6 ⟨rfl, hb⟩
    have E6 := Lib.hid (bthen E5.out hb E5.out.size)
    have C6 := Lib.hid (C5.out.below hb)
    have S6 := Lib.hid (S5.out.below hb)
    have P6 := Lib.hid (P5.out.below hb)
    clear hb E5 C5 S5 P5 HO1
    go_wp2_with fail
    go_loopw [12] (fun v wr => ∃ (ys : List Sg) (A' : Option Addr) (c' : Nat), v = .slice A' ys.length c' ∧ ys.length ≤ c' ∧ ys.length ≤ 12 ∧ Hid (stO C (h.map (·.2)) ys now = T ∧ Rw eS wr A' ys ∧ Below w6.heap.size w6 wr)) (fun v _ => slen v)
    case atStart => exact ⟨zs, A1, c1, rfl, hc1, HLL, Lib.hid ⟨HT.out, S6.out, Below.refl _ _⟩⟩
    case round =>
      obtain ⟨ys, A', c', rfl, hyc, hy12, HH⟩ := hrel
      have C7 := Lib.hid (C6.out.below HH.out.2.2)
      have P7 := Lib.hid (P6.out.below HH.out.2.2)
      have E7 := Lib.hid (bthen E6.out HH.out.2.2 E6.out.size)
      have k0 := C7.out.c0
      have k1 := C7.out.c1
      have k2 := C7.out.c2
      have k3 := C7.out.c3
      have k4 := C7.out.c4
      have k5 := C7.out.c5
      have k6 := C7.out.c6
      have k7 := C7.out.c7
      have k8 := C7.out.c8
      by_cases hlt : C.c + 1 < ys.length
      · obtain ⟨Y, hY⟩ : ∃ Y, ys.drop 1 = Y := ⟨_, rfl⟩
        have hl : ys.length - 1 = Y.length := by rw [← hY, List.length_drop]
        have hR := HH.out.2.1.rest hyc 1
        rw [hY] at hR
        have S7 := Lib.hid hR
        have HD := Lib.hid (HDR.out ys (by omega) hlt)
        rw [hY, HH.out.1] at HD
        have HD0 := Lib.hid HD.out
        have HOY := Lib.hid fun D W (hP : HP W h) (hRR : Rw eS W D Y) => HD.out ▸ HOF.out Y D (c' - 1) W hP hRR (by omega) (by omega)
        have h1 : 1 ≤ ys.length := by omega
        have hlt' : (ys.length : Int) > C.c + 1 := hlt
        have hYl : Y.length < ys.length := by omega
        have hY12 : Y.length ≤ 12 := by omega
        have hYc : Y.length ≤ c' - 1 := by omega
        have HLY := Lib.hid hl
        clear hY hl hR HD
        go_wp2_with (refine at_sliceL (.tmp 38) (.const (.int .i64 1)) rfl rfl A' ys.length c' 1 rfl (by simp [Act.eval]) h1 hyc ?_)
        rw [HLY.out]
        go_wp2_with fail
        refine (HOY.out _ _ P7.out S7.out).mono ?_
        rintro e w8 ⟨rfl, hb⟩
        have HB8 := Lib.hid (bthen HH.out.2.2 hb HH.out.2.2.size)
        have S8 := Lib.hid (S7.out.below hb)
        clear hb k0 k1 k2 k3 k4 k5 k6 k7 k8
        go_wp2_with fail
        go_roundw
        case rel => exact ⟨Y, _, _, rfl, hYc, hY12, Lib.hid ⟨HD0.out, S8.out, HB8.out⟩⟩
        case measure => simp only [slen]; omega
      · have hlt' : ¬ ((ys.length : Int) > C.c + 1) := hlt
        clear k0 k1 k2 k3 k4 k5 k6 k7 k8
        have k2 := C7.out.c2
        go_wp2_with fail
        go_ret
        exact ⟨rfl, E7.out⟩
end Go.Proofs.Ytpiieagdgickgaa
