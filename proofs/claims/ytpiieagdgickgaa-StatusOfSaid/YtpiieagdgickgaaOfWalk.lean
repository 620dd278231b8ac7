/-
  StatusOf's walk: it returns true, and nothing that lay in memory is touched. Conditions: numbers are bytes, and lie in memory.
-/
import Derived.Test.YtpiieagdgickgaaSem
import Derived.Deep.CutRange
import Derived.Lib.QuietBelow
set_option linter.unusedSimpArgs false
set_option linter.unusedVariables false
namespace Go.Proofs.Ytpiieagdgickgaa
open Go.RowKit

set_option maxRecDepth 100000 in
set_option maxHeartbeats 8000000 in
theorem statusOf_walk (y : Hc) (held : Bool) (mac : Int) (A : Option Addr) (xs : List Sn) (cap : Nat) (now : Int) (w : World) (hy : y.Ok) (hm0 : 0 ≤ mac) (hm1 : mac < 256) (hr : Rw eN w A xs) (hok : ∀ x ∈ xs, x.ok) (hcap : xs.length ≤ cap) (hn0 : 0 ≤ now) (hn1 : now < 256) :
    Calls Try.prog 3 #[hv y, .bool held, .int .u8 mac, .slice A xs.length cap, .int .u8 now] w fun e w' => e = .returned (.bool true) ∧ Below w.heap.size w w' := by
  have HAW := Lib.hid awake_any
  have HCH := Lib.hid fun W => choice_any y W hy
  have HSI := Lib.hid fun W (hW : Rw eN W A xs) => sights_any A xs cap W hW hok hcap
  have HIN := Lib.hid (ch_in y hy)
  have HLL := sgs_le xs
  have HST := Lib.hid fun W => station_any mac W hm0 hm1
  have B0 := Lib.hid (show Below w.heap.size w (w.alloc (Hcx y)) from (Below.refl _ w).alloc (Nat.le_refl _) _)
  have H0 := Lib.hid (hb_box w y)
  have R0 := Lib.hid (hr.below B0.out)
  obtain ⟨C, hC⟩ : ∃ C, ch y = C := ⟨_, rfl⟩
  rw [hC] at HCH HIN
  obtain ⟨zs, hzs⟩ : ∃ zs, sgs xs = zs := ⟨_, rfl⟩
  have HZS := Lib.hid hzs
  rw [hzs] at HSI HLL
  obtain ⟨M, hM⟩ : ∃ M, sn mac = M := ⟨_, rfl⟩
  rw [hM] at HST
  obtain ⟨ya, yb, yc, yd, ye, yf, yg, yh, yi⟩ := y
  simp only [hv, Hcx] at HCH B0 H0 R0 ⊢
  clear hy hok hr hcap hC hzs hM
  go_enter Try.func3, Try.ntmps3
  go_upto_region 1 with fail
  change (Code.region _ _ _).wp _ _ _ (w.alloc (.cells #[.int .u8 ya, .int .u8 yb, .int .u8 yc, .int .u8 yd, .int .u8 ye, .int .u8 yf, .int .u8 yg, .int .u8 yh, .int .u8 yi] 23))
  generalize w.alloc (.cells #[.int .u8 ya, .int .u8 yb, .int .u8 yc, .int .u8 yd, .int .u8 ye, .int .u8 yf, .int .u8 yg, .int .u8 yh, .int .u8 yi] 23) = W0 at *
  go_wp2_with fail
  refine (HAW.out _).mono ?_
  rintro e w1 ⟨rfl, hb⟩
  have B1 := Lib.hid (bthen B0.out hb B0.out.size)
  have H1 := Lib.hid (H0.out.below hb)
  have R1 := Lib.hid (R0.out.below hb)
  clear hb B0 H0 R0
  have k0 := H1.out.c0
  have k1 := H1.out.c1
  have k2 := H1.out.c2
  have k3 := H1.out.c3
  have k4 := H1.out.c4
  have k5 := H1.out.c5
  have k6 := H1.out.c6
  have k7 := H1.out.c7
  have k8 := H1.out.c8
  dsimp only at k0 k1 k2 k3 k4 k5 k6 k7 k8
  go_wp2_with fail
  refine (HCH.out _).mono ?_
  rintro e w2 ⟨rfl, hb⟩
  have B2 := Lib.hid (bthen B1.out hb B1.out.size)
  have R2 := Lib.hid (R1.out.below hb)
  clear hb B1 H1 R1 k0 k1 k2 k3 k4 k5 k6 k7 k8
  go_wp2_with fail
  refine (HSI.out _ R2.out).mono ?_
  rintro e w3 ⟨v3, rfl, ho, hb⟩
  obtain ⟨A1, c1, rfl, hc1, hm1', h1, -⟩ := own_at (E := eS) ho (by omega)
  have B3 := Lib.hid (bthen B2.out hb B2.out.size)
  have S3 := Lib.hid h1
  have P3 := Lib.hid (cb_box w3 zf)
  have D3 := Lib.hid (show Below w3.heap.size w3 (w3.alloc (Cfx zf)) from (Below.refl _ _).alloc (Nat.le_refl _) _)
  have HS3 := Lib.hid B3.out.size
  clear ho hb B2 R2 h1 HSI HCH HAW
  go_upto_region 4 with (refine at_store27 _ _ _ zf C P3.out rfl rfl rfl rfl ?_; intro w4 P4 B4)
  have D4 := Lib.hid (D3.out.trans (B4.out _ (Nat.le_refl _)))
  have C4 := Lib.hid P4.out.cm
  have E4 := Lib.hid (bthen B3.out D4.out B3.out.size)
  have S4 := Lib.hid (S3.out.below D4.out)
  clear P3 D3 B4 D4 B3 S3 P4
  generalize w3.heap.size = b at *
  go_upto_if 22 with fail
  go_cut [13] from 23 to 26 (fun v wc => ∃ h, v = hp h ∧ h.map (·.2) = (if held then some M else none) ∧ Hid (HP wc h ∧ Below w4.heap.size w4 wc))
  case first =>
    cases held
    · go_wp2_with fail
      go_meet
      exact ⟨none, rfl, rfl, Lib.hid ⟨trivial, Below.refl _ _⟩⟩
    · have HBM := Lib.hid fun W => hm_box W 1 (.string ⟨#[111]⟩) M
      obtain ⟨m0, m1, m2, m3, m4, m5⟩ := M
      simp only [mv, Hx] at HST HBM
      go_wp2_with fail
      refine (HST.out _).mono ?_
      rintro e w5 ⟨rfl, hb⟩
      have B5 := Lib.hid hb
      clear hb
      go_wp2_with fail
      go_meet
      exact ⟨some (w5.heap.size, ⟨m0, m1, m2, m3, m4, m5⟩), rfl, rfl, Lib.hid ⟨HBM.out w5, B5.out.alloc B5.out.size _⟩⟩
  case rest =>
    obtain ⟨h, rfl, hh, HH⟩ := hcut
    have E5 := Lib.hid (bthen E4.out HH.out.2 E4.out.size)
    have C5 := Lib.hid (C4.out.below HH.out.2)
    have S5 := Lib.hid (S4.out.below HH.out.2)
    have P5 := Lib.hid HH.out.1
    have HHM := Lib.hid hh
    have HCC := Lib.hid (show C.c ≤ 1099511627776 by have := HIN.out; omega)
    clear HH hh E4 C4 S4
    generalize hHP : hp h = hv' at *
    have HHP := Lib.hid hHP
    clear hHP
    obtain ⟨t4, ht4⟩ : ∃ t4, now / 4 = t4 := ⟨_, rfl⟩
    have ht4' : now.tdiv 4 = t4 := by rw [Int.tdiv_eq_ediv_of_nonneg hn0]; exact ht4
    have ht0 : 0 ≤ t4 := by omega
    have ht1 : t4 < 256 := by omega
    clear ht4
    go_upto_region 8 with fail
    have hA6 : Below wc.heap.size wc (wc.alloc (.cells #[.int .i64 now, .int .i64 t4] 3)) := (Below.refl _ _).alloc (Nat.le_refl _) _
    have E6 := Lib.hid (bthen E5.out hA6 E5.out.size)
    have C6 := Lib.hid (C5.out.below hA6)
    have S6 := Lib.hid (S5.out.below hA6)
    have P6 := Lib.hid (P5.out.below hA6)
    have G6 := Lib.hid (show wc.heap.size < (wc.alloc (.cells #[.int .i64 now, .int .i64 t4] 3)).heap.size ∧ (wc.alloc (.cells #[.int .i64 now, .int .i64 t4] 3)).cell? ⟨wc.heap.size, 0, none⟩ = some (.int .i64 now) ∧ (wc.alloc (.cells #[.int .i64 now, .int .i64 t4] 3)).cell? ⟨wc.heap.size, 1, none⟩ = some (.int .i64 t4) by simp)
    clear hA6 E5 C5 S5 P5
    generalize wc.alloc (.cells #[.int .i64 now, .int .i64 t4] 3) = W6 at *
    generalize wc.heap.size = g at *
    go_loopw [34] (fun i wr => ∃ k : Nat, i = .int .i64 k ∧ k ≤ 2 ∧ Hid (Below W6.heap.size W6 wr)) (fun i _ => 2 - (intOf i).toNat)
    case atStart => exact ⟨0, rfl, by omega, Lib.hid (Below.refl _ _)⟩
    case round =>
      obtain ⟨k, rfl, hk, HH⟩ := hrel
      by_cases hlt : k < 2
      · obtain ⟨t, ht⟩ : ∃ t, wr.cell? ⟨g, k, none⟩ = some (.int .i64 t) := by
          rcases (show k = 0 ∨ k = 1 by omega) with rfl | rfl
          · exact ⟨now, by rw [HH.out.cell (p := ⟨g, 0, none⟩) G6.out.1]; exact G6.out.2.1⟩
          · exact ⟨t4, by rw [HH.out.cell (p := ⟨g, 1, none⟩) G6.out.1]; exact G6.out.2.2⟩
        have C7 := Lib.hid (C6.out.below HH.out)
        have S7 := Lib.hid (S6.out.below HH.out)
        have P7 := Lib.hid (P6.out.below HH.out)
        have E7 := Lib.hid (bthen E6.out HH.out E6.out.size)
        obtain ⟨T, hT⟩ : ∃ T, stO C (h.map (·.2)) zs t = T := ⟨_, rfl⟩
        have CO := fun (d : Nat) (os : Array Obj) => of_any C h A1 zs c1 t (Sort.grow (redrawn wr d) os) (P7.out.below (below_regrown wr d os)) (S7.out.below (below_regrown wr d os)) hc1 (by omega) HCC.out
        have CL := fun (d : Nat) (os : Array Obj) => lawOf_any C h A1 zs c1 t (Sort.grow (redrawn wr d) os) (P7.out.below (below_regrown wr d os)) (S7.out.below (below_regrown wr d os)) hc1 (by omega) HCC.out
        rw [hT, HHP.out] at CO CL
        have R1 := Lib.hid fun d os => Calls.regrown_of (CO d os)
        have R2 := Lib.hid fun d os => Calls.regrown_of (CL d os)
        have LC := Lib.hid fun W (h : Rg wr W) => C7.out.below (below_rg h)
        clear CO CL hT
        go_upto_region 10 with fail
        refine wp_region_quiet_below (by kernel_rfl) (by kernel_rfl) ?_
        (try simp only [Act.put])
        repeat (first
          | (refine quiet_load27 (.tmp 11) b C LC.out ?_ ?_ ?_ ?_; rotate_left; (with_reducible rfl); rfl; rotate_left; kernel_rfl; simp only [Act.put, List.setIfInBounds_toArray, List.set_cons_zero, List.set_cons_succ])
          | go_big_quiet_step (first | (go_at_call 13; with_reducible exact R1.out _ _) | (go_at_call 14; with_reducible exact R2.out _ _)))
        refine wpQuiet_nil ?_
        intro w8 hw8
        have D8 := below_rg hw8
        have HB8 := Lib.hid (bthen HH.out D8 HH.out.size)
        clear hw8 D8 R1 R2 LC ht
        go_wp2_with fail
        go_roundw
        case rel => exact ⟨k + 1, by go_num, by omega, HB8⟩
        case measure => simp [intOf]; omega
      · obtain rfl : k = 2 := by omega
        go_wp2_with fail
        go_ret
        exact ⟨rfl, bthen E6.out HH.out E6.out.size⟩
end Go.Proofs.Ytpiieagdgickgaa
