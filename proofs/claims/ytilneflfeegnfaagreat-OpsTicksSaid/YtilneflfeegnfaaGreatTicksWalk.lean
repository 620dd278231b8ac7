/-
  OpsTicks' walk: where nothing is known ticks alone go by. Condition: the choice's numbers and the number of ticks are of 8 bits.
-/
import Derived.Test.YtilneflfeegnfaaGreatMOc
import Derived.BigGuard
set_option linter.unusedSimpArgs false
set_option linter.unusedVariables false
namespace Go.Proofs.YtilneflfeegnfaaGreat
open Go.RowKit

set_option maxRecDepth 100000 in
set_option maxHeartbeats 4000000 in
/-- Same of two states of the same time that are empty otherwise. -/
theorem same0 (n : Int) (A1 A2 A3 A4 A5 : Option Addr) (c1 c2 c3 c4 c5 : Nat) (w : World) : Calls Tryz.prog 16 #[.agg #[.int .i64 n, .int .i64 0, .slice A1 0 c1, .slice A2 0 c2, .slice A3 0 c3, .slice A4 0 c4, .slice A5 0 c5], .agg #[.int .i64 n, .int .i64 0, .slice none 0 0, .slice none 0 0, .slice none 0 0, .slice none 0 0, .slice none 0 0]] w fun e w' => e = .returned (.bool true) ∧ Below w.heap.size w w' := by
  have B0 := Lib.hid (show Below w.heap.size w ((w.alloc (.cells #[.int .i64 n, .int .i64 0, .slice A1 0 c1, .slice A2 0 c2, .slice A3 0 c3, .slice A4 0 c4, .slice A5 0 c5] 35)).alloc (.cells #[.int .i64 n, .int .i64 0, .slice none 0 0, .slice none 0 0, .slice none 0 0, .slice none 0 0, .slice none 0 0] 35)) from ((Below.refl _ w).alloc (Nat.le_refl _) _).alloc (by simp) _)
  have S0 := Lib.hid (show Cx ((w.alloc (.cells #[.int .i64 n, .int .i64 0, .slice A1 0 c1, .slice A2 0 c2, .slice A3 0 c3, .slice A4 0 c4, .slice A5 0 c5] 35)).alloc (.cells #[.int .i64 n, .int .i64 0, .slice none 0 0, .slice none 0 0, .slice none 0 0, .slice none 0 0, .slice none 0 0] 35)) w.heap.size [.int .i64 n, .int .i64 0, .slice A1 0 c1, .slice A2 0 c2, .slice A3 0 c3, .slice A4 0 c4, .slice A5 0 c5] from Cx.below (cx_box w [.int .i64 n, .int .i64 0, .slice A1 0 c1, .slice A2 0 c2, .slice A3 0 c3, .slice A4 0 c4, .slice A5 0 c5] _ 35 rfl) ((Below.refl _ _).alloc (Nat.le_refl _) _))
  have T0 := Lib.hid (show Cx ((w.alloc (.cells #[.int .i64 n, .int .i64 0, .slice A1 0 c1, .slice A2 0 c2, .slice A3 0 c3, .slice A4 0 c4, .slice A5 0 c5] 35)).alloc (.cells #[.int .i64 n, .int .i64 0, .slice none 0 0, .slice none 0 0, .slice none 0 0, .slice none 0 0, .slice none 0 0] 35)) (w.alloc (.cells #[.int .i64 n, .int .i64 0, .slice A1 0 c1, .slice A2 0 c2, .slice A3 0 c3, .slice A4 0 c4, .slice A5 0 c5] 35)).heap.size [.int .i64 n, .int .i64 0, .slice none 0 0, .slice none 0 0, .slice none 0 0, .slice none 0 0, .slice none 0 0] from cx_box _ _ _ 35 rfl)
  rw [World.size_alloc] at T0
  go_enter Tryz.func16, Tryz.ntmps16
  go_upto_region 1 with fail
  generalize (w.alloc (.cells #[.int .i64 n, .int .i64 0, .slice A1 0 c1, .slice A2 0 c2, .slice A3 0 c3, .slice A4 0 c4, .slice A5 0 c5] 35)).alloc (.cells #[.int .i64 n, .int .i64 0, .slice none 0 0, .slice none 0 0, .slice none 0 0, .slice none 0 0, .slice none 0 0] 35) = W at *
  have a0 := S0.out.key 0 _ rfl
  have a1 := S0.out.key 1 _ rfl
  have a2 := S0.out.key 2 _ rfl
  have a3 := S0.out.key 3 _ rfl
  have a4 := S0.out.key 4 _ rfl
  have a5 := S0.out.key 5 _ rfl
  have a6 := S0.out.key 6 _ rfl
  have b0 := T0.out.key 0 _ rfl
  have b1 := T0.out.key 1 _ rfl
  have b2 := T0.out.key 2 _ rfl
  have b3 := T0.out.key 3 _ rfl
  have b4 := T0.out.key 4 _ rfl
  have b5 := T0.out.key 5 _ rfl
  have b6 := T0.out.key 6 _ rfl
  go_wp2_with fail
  go_loopw [5, 72] (fun o i v0 => o = .bool true ∧ i = .int .i64 0 ∧ v0 = W) (fun _ _ _ => 0)
  case atStart => exact ⟨rfl, rfl, rfl⟩
  case round =>
    obtain ⟨rfl, rfl, rfl⟩ := hrel
    go_wp2_with fail
    go_loopw [5, 93] (fun o i v1 => o = .bool true ∧ i = .int .i64 0 ∧ v1 = wr) (fun _ _ _ => 0)
    case atStart => exact ⟨rfl, rfl, rfl⟩
    case round =>
      obtain ⟨rfl, rfl, rfl⟩ := hrel
      go_wp2_with fail
      go_loopw [5, 114] (fun o i v2 => o = .bool true ∧ i = .int .i64 0 ∧ v2 = wr) (fun _ _ _ => 0)
      case atStart => exact ⟨rfl, rfl, rfl⟩
      case round =>
        obtain ⟨rfl, rfl, rfl⟩ := hrel
        go_wp2_with fail
        go_loopw [5, 135] (fun o i v3 => o = .bool true ∧ i = .int .i64 0 ∧ v3 = wr) (fun _ _ _ => 0)
        case atStart => exact ⟨rfl, rfl, rfl⟩
        case round =>
          obtain ⟨rfl, rfl, rfl⟩ := hrel
          go_wp2_with fail
          go_loopw [5, 156] (fun o i v4 => o = .bool true ∧ i = .int .i64 0 ∧ v4 = wr) (fun _ _ _ => 0)
          case atStart => exact ⟨rfl, rfl, rfl⟩
          case round =>
            obtain ⟨rfl, rfl, rfl⟩ := hrel
            go_wp2_with fail
            go_ret
            exact ⟨rfl, B0.out⟩
/-- Do, where nothing is known, at a tick. -/
theorem do0 (c : Cf) (k : Nat) (r : Rws) (w : World) (h : Lie w (emp k) r) (hi : In (emp k)) (hc : Ck c) (hk : (k : Int) < 256) : Calls Tryz.prog 14 #[cfv c, stv (emp k) r, evv evt] w fun e w' => ∃ r' A cap, e = .returned (.tuple #[stv (emp ((k + 1 : Nat) : Int)) r', .slice A 0 cap, .int .i64 0]) ∧ Lie w' (emp ((k + 1 : Nat) : Int)) r' ∧ In (emp ((k + 1 : Nat) : Int)) ∧ Below w.heap.size w w' := by
  have e := emp_tick c (n := (k : Int)) (by omega)
  have hI := in_do hi hc evt_ok
  rw [e] at hI
  refine (do_any c (emp k) r evt w h hi hc evt_ok).mono ?_
  rintro z w' ⟨r', A, cap, he, hL, hr, hcp, hb⟩
  rw [e] at he hL
  exact ⟨r', A, cap, he, hL, hI, hb⟩
set_option maxRecDepth 100000 in
set_option maxHeartbeats 4000000 in
theorem opsTicks_walk (y : Hc) (m : Int) (w : World) (hy : y.Ok) (m0 : 0 ≤ m) (m1 : m < 256) : Calls Tryz.prog 9 #[hv y, .int .u8 m] w fun e w' => e = .returned (.bool true) ∧ Below w.heap.size w w' := by
  have HA := Lib.hid awake_any
  have HC := fun W => choice_any y W hy
  have HK := ck_ch y hy
  have HO := cf_old y hy
  obtain ⟨cf, hcf⟩ : ∃ cf, ch y = cf := ⟨_, rfl⟩
  rw [hcf] at HC HK HO
  obtain ⟨ya, yb, yc, yd, ye, yf, yg, yh, yi⟩ := y
  obtain ⟨xa, xb, xc, xd, xe, xf, xg, xh, xi⟩ := cf
  simp only [cfv, hv] at HC
  replace HC := Lib.hid HC
  replace HK := Lib.hid HK
  have hO1 := HO
  dsimp only at hO1
  simp only [hv]
  have B0 := Lib.hid (show Below w.heap.size w (w.alloc (.cells #[.int .u8 ya, .int .u8 yb, .int .u8 yc, .int .u8 yd, .int .u8 ye, .int .u8 yf, .int .u8 yg, .int .u8 yh, .int .u8 yi] 23)) from (Below.refl _ w).alloc (Nat.le_refl _) _)
  have X0 := Lib.hid (show Cx (w.alloc (.cells #[.int .u8 ya, .int .u8 yb, .int .u8 yc, .int .u8 yd, .int .u8 ye, .int .u8 yf, .int .u8 yg, .int .u8 yh, .int .u8 yi] 23)) w.heap.size [.int .u8 ya, .int .u8 yb, .int .u8 yc, .int .u8 yd, .int .u8 ye, .int .u8 yf, .int .u8 yg, .int .u8 yh, .int .u8 yi] from cx_box w _ _ 23 rfl)
  clear hy hcf HO
  go_enter Tryz.func9, Tryz.ntmps9
  go_wp2_with fail
  change Calls _ _ _ (w.alloc (.cells #[.int .u8 ya, .int .u8 yb, .int .u8 yc, .int .u8 yd, .int .u8 ye, .int .u8 yf, .int .u8 yg, .int .u8 yh, .int .u8 yi] 23)) _
  generalize w.alloc (.cells #[.int .u8 ya, .int .u8 yb, .int .u8 yc, .int .u8 yd, .int .u8 ye, .int .u8 yf, .int .u8 yg, .int .u8 yh, .int .u8 yi] 23) = W0 at *
  refine (HA.out _).mono ?_
  rintro e w1 ⟨rfl, hb⟩
  have X1 := Cx.below X0.out hb
  have B1 := Lib.hid (bthen B0.out hb B0.out.size)
  have l0 := X1.key 0 _ rfl
  have l1 := X1.key 1 _ rfl
  have l2 := X1.key 2 _ rfl
  have l3 := X1.key 3 _ rfl
  have l4 := X1.key 4 _ rfl
  have l5 := X1.key 5 _ rfl
  have l6 := X1.key 6 _ rfl
  have l7 := X1.key 7 _ rfl
  have l8 := X1.key 8 _ rfl
  (try dsimp only at l0 l1 l2 l3 l4 l5 l6 l7 l8)
  clear hb X1 X0 B0 HA
  go_wp2_with fail
  refine (HC.out _).mono ?_
  rintro e w2 ⟨rfl, hb⟩
  clear l0 l1 l2 l3 l4 l5 l6 l7 l8 HC
  have C3 := Lib.hid (show Cm (w2.alloc (.cells #[.int .i64 xa, .int .i64 xb, .int .i64 xc, .int .i64 xd, .int .i64 xe, .int .i64 xf, .int .i64 xg, .int .i64 xh, .int .i64 xi] 27)) w2.heap.size ⟨xa, xb, xc, xd, xe, xf, xg, xh, xi⟩ from cm_box w2 ⟨xa, xb, xc, xd, xe, xf, xg, xh, xi⟩)
  have B3 := Lib.hid (show Below w.heap.size w (w2.alloc (.cells #[.int .i64 xa, .int .i64 xb, .int .i64 xc, .int .i64 xd, .int .i64 xe, .int .i64 xf, .int .i64 xg, .int .i64 xh, .int .i64 xi] 27)) from (bthen B1.out hb B1.out.size).alloc (Nat.le_trans B1.out.size hb.size) _)
  have hg : w.heap.size ≤ w2.heap.size := Nat.le_trans B1.out.size hb.size
  clear hb B1
  have HS2 := Lib.hid (show (w2.alloc (.cells #[.int .i64 xa, .int .i64 xb, .int .i64 xc, .int .i64 xd, .int .i64 xe, .int .i64 xf, .int .i64 xg, .int .i64 xh, .int .i64 xi] 27)).heap.size = w2.heap.size + 1 by simp)
  have C4 := Lib.hid (C3.out.below ((Below.refl (w2.alloc (.cells #[.int .i64 xa, .int .i64 xb, .int .i64 xc, .int .i64 xd, .int .i64 xe, .int .i64 xf, .int .i64 xg, .int .i64 xh, .int .i64 xi] 27)).heap.size _).alloc (Nat.le_refl _) (.cells #[.int .i64 0, .int .i64 0, .slice none 0 0, .slice none 0 0, .slice none 0 0, .slice none 0 0, .slice none 0 0] 35)))
  have B4 := Lib.hid (B3.out.alloc B3.out.size (.cells #[.int .i64 0, .int .i64 0, .slice none 0 0, .slice none 0 0, .slice none 0 0, .slice none 0 0, .slice none 0 0] 35))
  have Z4 := Lib.hid (show Sb ((w2.alloc (.cells #[.int .i64 xa, .int .i64 xb, .int .i64 xc, .int .i64 xd, .int .i64 xe, .int .i64 xf, .int .i64 xg, .int .i64 xh, .int .i64 xi] 27)).alloc (.cells #[.int .i64 0, .int .i64 0, .slice none 0 0, .slice none 0 0, .slice none 0 0, .slice none 0 0, .slice none 0 0] 35)) (w2.alloc (.cells #[.int .i64 xa, .int .i64 xb, .int .i64 xc, .int .i64 xd, .int .i64 xe, .int .i64 xf, .int .i64 xg, .int .i64 xh, .int .i64 xi] 27)).heap.size (stl zst zrw) from sb_box _ zst zrw)
  rw [HS2.out] at Z4
  clear C3 B3
  go_upto_region 5 with fail
  change Code.wp _ _ _ _ ((w2.alloc (.cells #[.int .i64 xa, .int .i64 xb, .int .i64 xc, .int .i64 xd, .int .i64 xe, .int .i64 xf, .int .i64 xg, .int .i64 xh, .int .i64 xi] 27)).alloc (.cells #[.int .i64 0, .int .i64 0, .slice none 0 0, .slice none 0 0, .slice none 0 0, .slice none 0 0, .slice none 0 0] 35))
  generalize (w2.alloc (.cells #[.int .i64 xa, .int .i64 xb, .int .i64 xc, .int .i64 xd, .int .i64 xe, .int .i64 xf, .int .i64 xg, .int .i64 xh, .int .i64 xi] 27)).alloc (.cells #[.int .i64 0, .int .i64 0, .slice none 0 0, .slice none 0 0, .slice none 0 0, .slice none 0 0, .slice none 0 0] 35) = W3 at *
  have HH := Lib.hid (show ∃ r, Sb W3 (w2.heap.size + 1) (stl (emp ((0 : Nat) : Int)) r) ∧ Lie W3 (emp ((0 : Nat) : Int)) r ∧ Cm W3 w2.heap.size ⟨xa, xb, xc, xd, xe, xf, xg, xh, xi⟩ ∧ Below w.heap.size w W3 ∧ In (emp ((0 : Nat) : Int)) from ⟨zrw, Z4.out, lie_zero _, C4.out, B4.out, in_zst⟩)
  clear C4 B4 Z4 HS2
  go_wp2_with fail
  go_loopw [7] (fun i wr => ∃ k : Nat, i = .int .i64 k ∧ (k : Int) ≤ m ∧ Hid (∃ r, Sb wr (w2.heap.size + 1) (stl (emp (k : Int)) r) ∧ Lie wr (emp (k : Int)) r ∧ Cm wr w2.heap.size ⟨xa, xb, xc, xd, xe, xf, xg, xh, xi⟩ ∧ Below w.heap.size w wr ∧ In (emp (k : Int)))) (fun i _ => (m - intOf i).toNat)
  case atStart => exact ⟨0, rfl, by omega, HH⟩
  case round =>
    obtain ⟨k, rfl, hk, HR⟩ := hrel
    clear HH
    obtain ⟨r6, hS, hL, hC, hB, hI⟩ := HR.out
    have S6 := Lib.hid hS
    have R6 := Lib.hid hL
    have C6 := Lib.hid hC
    have B6 := Lib.hid hB
    have HI := Lib.hid hI
    clear hS hL hC hB HR hI
    by_cases hlt : (k : Int) < m
    · have DO := Lib.hid (do0 ⟨xa, xb, xc, xd, xe, xf, xg, xh, xi⟩ k r6 wr R6.out HI.out HK.out (by omega))
      obtain ⟨Y, hY⟩ : ∃ Y, emp ((k + 1 : Nat) : Int) = Y := ⟨_, rfl⟩
      have HY := Lib.hid hY
      rw [hY] at DO
      clear hY
      have k0 := C6.out.c0
      have k1 := C6.out.c1
      have k2 := C6.out.c2
      have k3 := C6.out.c3
      have k4 := C6.out.c4
      have k5 := C6.out.c5
      have k6 := C6.out.c6
      have k7 := C6.out.c7
      have k8 := C6.out.c8
      (try dsimp only at k0 k1 k2 k3 k4 k5 k6 k7 k8)
      go_wp2_with (refine at_loadSt _ (w2.heap.size + 1) _ S6.out.cx rfl rfl rfl rfl ?_)
      refine DO.out.mono ?_
      rintro e w7 ⟨r7, A7, c7, rfl, hL, hI, hb⟩
      clear k0 k1 k2 k3 k4 k5 k6 k7 k8 HI
      have BX := Lib.hid (show Below w7.heap.size w7 (w7.alloc (.cells #[.int .i64 0, .int .i64 0, .slice none 0 0, .slice none 0 0, .slice none 0 0, .slice none 0 0, .slice none 0 0] 35)) from (Below.refl _ _).alloc (Nat.le_refl _) _)
      have Z7 := Lib.hid (show Sb (w7.alloc (.cells #[.int .i64 0, .int .i64 0, .slice none 0 0, .slice none 0 0, .slice none 0 0, .slice none 0 0, .slice none 0 0] 35)) w7.heap.size (stl zst zrw) from sb_box w7 zst zrw)
      have bb := hb.trans (BX.out.mono hb.size)
      have B7 := Lib.hid (bthen B6.out bb B6.out.size)
      have C7 := Lib.hid (C6.out.below bb)
      have S7 := Lib.hid (S6.out.below bb)
      have R7 := Lib.hid (hL.below BX.out)
      have HI7 := Lib.hid hI
      have hlt7 : w2.heap.size + 1 < w7.heap.size := Nat.lt_of_lt_of_le S6.out.lt hb.size
      have hg7 : w.heap.size ≤ w7.heap.size := by omega
      clear bb hb hL BX B6 C6 S6 R6 hI DO
      go_wp2_with (first | (refine at_wholeSt _ _ w7.heap.size _ (stl Y r7) Z7.out rfl (stl_ns _ _) (stl_one _ _) rfl rfl rfl rfl ?_; intro w8 S8 hb8 hk8; have B8 := Lib.hid (B7.out.trans (hb8.out _ hg7)); have C8 := Lib.hid (cm_ob C7.out (Ob.put hb8.out hk8.out) (by omega)); have T8 := Lib.hid (S7.out.other hk8.out (by omega)); have R8 := Lib.hid (R7.out.apart Z7.out.bs hk8.out)) | (refine at_loadSt _ w7.heap.size _ S8.out.cx rfl rfl rfl rfl ?_) | (refine at_wholeSt _ _ (w2.heap.size + 1) _ (stl Y r7) T8.out rfl (stl_ns _ _) (stl_one _ _) rfl rfl rfl rfl ?_; intro w9 S9 hb9 hk9))
      have HN := Lib.hid (show ∃ r, Sb w9 (w2.heap.size + 1) (stl (emp ((k + 1 : Nat) : Int)) r) ∧ Lie w9 (emp ((k + 1 : Nat) : Int)) r ∧ Cm w9 w2.heap.size ⟨xa, xb, xc, xd, xe, xf, xg, xh, xi⟩ ∧ Below w.heap.size w w9 ∧ In (emp ((k + 1 : Nat) : Int)) from by rw [HY.out]; exact ⟨r7, S9.out, R8.out.apart T8.out.bs hk9.out, cm_ob C8.out (Ob.put hb9.out hk9.out) (by omega), B8.out.trans (hb9.out _ (by omega)), HY.out ▸ HI7.out⟩)
      go_roundw
      case rel => exact ⟨k + 1, by go_num, by omega, HN⟩
      case measure => simp [intOf]; omega
    · obtain rfl : (k : Int) = m := by omega
      go_wp2_with (refine at_loadSt _ (w2.heap.size + 1) _ S6.out.cx rfl rfl rfl rfl ?_)
      refine (same0 (k : Int) r6.h r6.s r6.k r6.p r6.c r6.hc r6.sc r6.kc r6.pc r6.cc _).mono ?_
      rintro e w7 ⟨rfl, hb⟩
      go_wp2_with fail
      go_ret
      exact ⟨rfl, bthen B6.out hb B6.out.size⟩
end Go.Proofs.YtilneflfeegnfaaGreat
