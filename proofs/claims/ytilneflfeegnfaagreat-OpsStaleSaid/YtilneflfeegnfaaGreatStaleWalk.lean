/-
  OpsStale's walk: it gives true. Condition: the choice's numbers and the address's are of 8 bits.
-/
import Derived.Test.YtilneflfeegnfaaGreatMOc
set_option linter.unusedSimpArgs false
set_option linter.unusedVariables false
namespace Go.Proofs.YtilneflfeegnfaaGreat
open Go.RowKit

set_option maxRecDepth 100000 in
set_option maxHeartbeats 4000000 in
theorem opsStale_walk (y : Hc) (m : Int) (no : Bool) (w : World) (hy : y.Ok) (m0 : 0 ≤ m) (m1 : m < 256) : Calls Tryz.prog 10 #[hv y, .int .u8 m, .bool no] w fun e w' => e = .returned (.bool true) ∧ Below w.heap.size w w' := by
  have HA := Lib.hid awake_any
  have HC := fun W => choice_any y W hy
  have HK := ck_ch y hy
  have HO := cf_old y hy
  obtain ⟨cf, hcf⟩ : ∃ cf, ch y = cf := ⟨_, rfl⟩
  rw [hcf] at HC HK HO
  obtain ⟨ya, yb, yc, yd, ye, yf, yg, yh, yi⟩ := y
  obtain ⟨xa, xb, xc, xd, xe, xf, xg, xh, xi⟩ := cf
  simp only [cfv, hv] at HC
  replace HC := Lib.hid HC
  replace HK := Lib.hid HK
  have hO1 := HO
  dsimp only at hO1
  simp only [hv]
  have B0 := Lib.hid (show Below w.heap.size w (w.alloc (.cells #[.int .u8 ya, .int .u8 yb, .int .u8 yc, .int .u8 yd, .int .u8 ye, .int .u8 yf, .int .u8 yg, .int .u8 yh, .int .u8 yi] 23)) from (Below.refl _ w).alloc (Nat.le_refl _) _)
  have X0 := Lib.hid (show Cx (w.alloc (.cells #[.int .u8 ya, .int .u8 yb, .int .u8 yc, .int .u8 yd, .int .u8 ye, .int .u8 yf, .int .u8 yg, .int .u8 yh, .int .u8 yi] 23)) w.heap.size [.int .u8 ya, .int .u8 yb, .int .u8 yc, .int .u8 yd, .int .u8 ye, .int .u8 yf, .int .u8 yg, .int .u8 yh, .int .u8 yi] from cx_box w _ _ 23 rfl)
  clear hy hcf HO
  go_enter Tryz.func10, Tryz.ntmps10
  go_wp2_with fail
  change Calls _ _ _ (w.alloc (.cells #[.int .u8 ya, .int .u8 yb, .int .u8 yc, .int .u8 yd, .int .u8 ye, .int .u8 yf, .int .u8 yg, .int .u8 yh, .int .u8 yi] 23)) _
  generalize w.alloc (.cells #[.int .u8 ya, .int .u8 yb, .int .u8 yc, .int .u8 yd, .int .u8 ye, .int .u8 yf, .int .u8 yg, .int .u8 yh, .int .u8 yi] 23) = W0 at *
  refine (HA.out _).mono ?_
  rintro e w1 ⟨rfl, hb⟩
  have X1 := Cx.below X0.out hb
  have B1 := Lib.hid (bthen B0.out hb B0.out.size)
  have l0 := X1.key 0 _ rfl
  have l1 := X1.key 1 _ rfl
  have l2 := X1.key 2 _ rfl
  have l3 := X1.key 3 _ rfl
  have l4 := X1.key 4 _ rfl
  have l5 := X1.key 5 _ rfl
  have l6 := X1.key 6 _ rfl
  have l7 := X1.key 7 _ rfl
  have l8 := X1.key 8 _ rfl
  (try dsimp only at l0 l1 l2 l3 l4 l5 l6 l7 l8)
  clear hb X1 X0 B0 HA
  go_wp2_with fail
  refine (HC.out _).mono ?_
  rintro e w2 ⟨rfl, hb⟩
  clear l0 l1 l2 l3 l4 l5 l6 l7 l8 HC
  have C3 := Lib.hid (show Cm (w2.alloc (.cells #[.int .i64 xa, .int .i64 xb, .int .i64 xc, .int .i64 xd, .int .i64 xe, .int .i64 xf, .int .i64 xg, .int .i64 xh, .int .i64 xi] 27)) w2.heap.size ⟨xa, xb, xc, xd, xe, xf, xg, xh, xi⟩ from cm_box w2 ⟨xa, xb, xc, xd, xe, xf, xg, xh, xi⟩)
  have B3 := Lib.hid (show Below w.heap.size w (w2.alloc (.cells #[.int .i64 xa, .int .i64 xb, .int .i64 xc, .int .i64 xd, .int .i64 xe, .int .i64 xf, .int .i64 xg, .int .i64 xh, .int .i64 xi] 27)) from (bthen B1.out hb B1.out.size).alloc (Nat.le_trans B1.out.size hb.size) _)
  have hg : w.heap.size ≤ w2.heap.size := Nat.le_trans B1.out.size hb.size
  clear hb B1
  have DO1 := Lib.hid fun W => doS ⟨xa, xb, xc, xd, xe, xf, xg, xh, xi⟩ zst zrw (evH m) W (lie_zero W) in_zst HK.out (evH_ok m0 (by omega)) ⟨0, 0, [hA m], [], [], [], []⟩ 0 (by rw [one_hold]) (by rw [one_hold])
  have hi1 : In ⟨0, 0, [hA m], [], [], [], []⟩ := by
    have := in_do in_zst HK.out (evH_ok m0 (by omega))
    rw [one_hold] at this
    exact this
  have DO2 := Lib.hid fun r W h => doS ⟨xa, xb, xc, xd, xe, xf, xg, xh, xi⟩ ⟨0, 0, [hA m], [], [], [], []⟩ r (evN 5 m 1) W h hi1 HK.out (evN_ok m0 (by omega)) (oneS m 0 []) 0 (by rw [one_saw]) (by rw [one_saw])
  have hi2 : In (oneS m 0 []) := by
    have := in_do hi1 HK.out (evN_ok (k := 5) (f := 1) m0 (by omega))
    rw [one_saw] at this
    exact this
  have HI2 := Lib.hid hi2
  have hb0 : 1 ≤ xb := by have h1 := HK.out.a0; have h2 := HK.out.ab; dsimp only at h1 h2; omega
  clear hi1 hi2
  go_wp2_with fail
  change Calls _ _ _ (w2.alloc (.cells #[.int .i64 xa, .int .i64 xb, .int .i64 xc, .int .i64 xd, .int .i64 xe, .int .i64 xf, .int .i64 xg, .int .i64 xh, .int .i64 xi] 27)) _
  generalize w2.alloc (.cells #[.int .i64 xa, .int .i64 xb, .int .i64 xc, .int .i64 xd, .int .i64 xe, .int .i64 xf, .int .i64 xg, .int .i64 xh, .int .i64 xi] 27) = W3 at *
  refine (DO1.out _).mono ?_
  rintro e w3 ⟨r1, v1, rfl, hL, hb⟩
  have BX := Lib.hid (show Below w3.heap.size w3 (w3.alloc (.cells #[.int .i64 0, .int .i64 0, .slice none 0 0, .slice none 0 0, .slice none 0 0, .slice none 0 0, .slice none 0 0] 35)) from (Below.refl _ _).alloc (Nat.le_refl _) _)
  have Z1 := Lib.hid (show Sb (w3.alloc (.cells #[.int .i64 0, .int .i64 0, .slice none 0 0, .slice none 0 0, .slice none 0 0, .slice none 0 0, .slice none 0 0] 35)) w3.heap.size (stl zst zrw) from sb_box w3 zst zrw)
  have bb := hb.trans (BX.out.mono hb.size)
  have B4 := Lib.hid (bthen B3.out bb B3.out.size)
  have C4 := Lib.hid (C3.out.below bb)
  have R4 := Lib.hid (hL.below BX.out)
  have hlt1 : w2.heap.size < w3.heap.size := Nat.lt_of_lt_of_le C3.out.lt hb.size
  clear bb hb hL BX B3 C3
  go_wp2_with (refine at_wholeSt _ _ w3.heap.size _ (stl ⟨0, 0, [hA m], [], [], [], []⟩ r1) Z1.out rfl (stl_ns _ _) (stl_one _ _) rfl rfl rfl rfl ?_)
  intro w4 S5 hb5 hk5
  have B5 := Lib.hid (B4.out.trans (hb5.out _ (by omega)))
  have C5 := Lib.hid (cm_ob C4.out (Ob.put hb5.out hk5.out) (by omega))
  have R5 := Lib.hid (R4.out.apart Z1.out.bs hk5.out)
  clear hb5 hk5 B4 C4 R4 Z1
  have k0 := C5.out.c0
  have k1 := C5.out.c1
  have k2 := C5.out.c2
  have k3 := C5.out.c3
  have k4 := C5.out.c4
  have k5 := C5.out.c5
  have k6 := C5.out.c6
  have k7 := C5.out.c7
  have k8 := C5.out.c8
  (try dsimp only at k0 k1 k2 k3 k4 k5 k6 k7 k8)
  go_wp2_with (refine at_loadSt _ w3.heap.size _ S5.out.cx rfl rfl rfl rfl ?_)
  refine (DO2.out r1 _ R5.out).mono ?_
  rintro e w5 ⟨r5, v5, rfl, hL, hb⟩
  clear k0 k1 k2 k3 k4 k5 k6 k7 k8
  have S6 := Lib.hid (S5.out.below hb)
  have B6 := Lib.hid (bthen B5.out hb B5.out.size)
  have C6 := Lib.hid (C5.out.below hb)
  have R6 := Lib.hid hL
  clear hb hL S5 B5 C5 R5
  go_wp2_with (refine at_wholeSt _ _ w3.heap.size _ (stl (oneS m 0 []) r5) S6.out rfl (stl_ns _ _) (stl_one _ _) rfl rfl rfl rfl ?_)
  intro w6 S7 hb7 hk7
  have HH := Lib.hid (show ∃ r, Sb w6 w3.heap.size (stl (skS xb m ((0 : Nat) : Int)) r) ∧ Lie w6 (skS xb m ((0 : Nat) : Int)) r ∧ Cm w6 w2.heap.size ⟨xa, xb, xc, xd, xe, xf, xg, xh, xi⟩ ∧ Below w.heap.size w w6 ∧ In (skS xb m ((0 : Nat) : Int)) from by
    rw [show ((0 : Nat) : Int) = 0 from rfl, sk_live (show (0 : Int) < xb by omega)]
    exact ⟨r5, S7.out, R6.out.apart S6.out.bs hk7.out, cm_ob C6.out (Ob.put hb7.out hk7.out) (by omega), B6.out.trans (hb7.out _ (by omega)), HI2.out⟩)
  clear hb7 hk7 S6 S7 B6 C6 R6
  go_wp2_with fail
  go_loopw [14] (fun i wr => ∃ k : Nat, i = .int .i64 k ∧ (k : Int) ≤ xb ∧ Hid (∃ r, Sb wr w3.heap.size (stl (skS xb m (k : Int)) r) ∧ Lie wr (skS xb m (k : Int)) r ∧ Cm wr w2.heap.size ⟨xa, xb, xc, xd, xe, xf, xg, xh, xi⟩ ∧ Below w.heap.size w wr ∧ In (skS xb m (k : Int)))) (fun i _ => (xb - intOf i).toNat)
  case atStart => exact ⟨0, rfl, by omega, HH⟩
  case round =>
    obtain ⟨k, rfl, hk, HR⟩ := hrel
    clear HH HI2 DO1 DO2
    obtain ⟨r6, hS, hL, hC, hB, hI⟩ := HR.out
    by_cases hlt : (k : Int) < xb
    · have htk := sk_tick HK.out (a := m) (show (0 : Int) ≤ (k : Int) by omega) hlt
      have DO := Lib.hid (doS ⟨xa, xb, xc, xd, xe, xf, xg, xh, xi⟩ (skS xb m k) r6 evt wr hL hI HK.out evt_ok (skS xb m ((k + 1 : Nat) : Int)) 0 (by have := congrArg (·.1) htk; exact this) (by have := congrArg (·.2.2) htk; exact this))
      have hI2 := in_do hI HK.out evt_ok
      rw [show (doL ⟨xa, xb, xc, xd, xe, xf, xg, xh, xi⟩ (skS xb m k) evt).1 = skS xb m ((k + 1 : Nat) : Int) from by have := congrArg (·.1) htk; exact this] at hI2
      have HI2 := Lib.hid hI2
      have hlen := sk_len (a := m) hlt
      have S6 := Lib.hid hS
      have C6 := Lib.hid hC
      have B6 := Lib.hid hB
      have j6 := hS.cx.key 6 _ rfl
      (try dsimp only at j6)
      rw [hlen] at j6
      clear hS hL hC hB HR hI hI2 hlen htk
      obtain ⟨Y, hY⟩ : ∃ Y, skS xb m ((k + 1 : Nat) : Int) = Y := ⟨_, rfl⟩
      have HY := Lib.hid hY
      rw [hY] at DO HI2
      clear hY
      have k0 := C6.out.c0
      have k1 := C6.out.c1
      have k2 := C6.out.c2
      have k3 := C6.out.c3
      have k4 := C6.out.c4
      have k5 := C6.out.c5
      have k6 := C6.out.c6
      have k7 := C6.out.c7
      have k8 := C6.out.c8
      (try dsimp only at k0 k1 k2 k3 k4 k5 k6 k7 k8)
      go_wp2_with (refine at_loadSt _ w3.heap.size _ S6.out.cx rfl rfl rfl rfl ?_)
      refine DO.out.mono ?_
      rintro e w7 ⟨r7, v7, rfl, hL, hb⟩
      clear k0 k1 k2 k3 k4 k5 k6 k7 k8 j6
      have S7 := Lib.hid (S6.out.below hb)
      have B7 := Lib.hid (bthen B6.out hb B6.out.size)
      have C7 := Lib.hid (C6.out.below hb)
      have R7 := Lib.hid hL
      clear hb hL S6 B6 C6
      go_wp2_with (refine at_wholeSt _ _ w3.heap.size _ (stl Y r7) S7.out rfl (stl_ns _ _) (stl_one _ _) rfl rfl rfl rfl ?_)
      intro w8 S8 hb8 hk8
      have HN := Lib.hid (show ∃ r, Sb w8 w3.heap.size (stl (skS xb m ((k + 1 : Nat) : Int)) r) ∧ Lie w8 (skS xb m ((k + 1 : Nat) : Int)) r ∧ Cm w8 w2.heap.size ⟨xa, xb, xc, xd, xe, xf, xg, xh, xi⟩ ∧ Below w.heap.size w w8 ∧ In (skS xb m ((k + 1 : Nat) : Int)) from by rw [HY.out]; exact ⟨r7, S8.out, R7.out.apart S7.out.bs hk8.out, cm_ob C7.out (Ob.put hb8.out hk8.out) (by omega), B7.out.trans (hb8.out _ (by omega)), HI2.out⟩)
      clear hb8 hk8 S7 S8 B7 C7 R7 DO HI2
      go_wp2_with fail
      go_roundw
      case rel => exact ⟨k + 1, by go_num, by omega, HN⟩
      case measure => simp [intOf]; omega
    · have hke : (k : Int) = xb := by omega
      rw [hke, sk_at] at hS hL hI
      have S6 := Lib.hid hS
      have R6 := Lib.hid hL
      have C6 := Lib.hid hC
      have B6 := Lib.hid hB
      have HI6 := Lib.hid hI
      clear hS hL hC hB HR hI
      cases no
      · have hw := one_yes ⟨xa, xb, xc, xd, xe, xf, xg, xh, xi⟩ m xb (by omega) (by omega)
        have hd1 : (doL ⟨xa, xb, xc, xd, xe, xf, xg, xh, xi⟩ (oneS m xb [⟨m, xb, 0, 0⟩]) (evN 6 m 0)).1 = oneS m xb [⟨m, xb, 0, 1⟩] := by
          have := congrArg (·.1) hw
          exact this
        have hd2 : (doL ⟨xa, xb, xc, xd, xe, xf, xg, xh, xi⟩ (oneS m xb [⟨m, xb, 0, 0⟩]) (evN 6 m 0)).2.2 = 0 := by
          have := congrArg (·.2.2) hw
          exact this
        have DO := Lib.hid fun W h => doS ⟨xa, xb, xc, xd, xe, xf, xg, xh, xi⟩ (oneS m xb [⟨m, xb, 0, 0⟩]) r6 (evN 6 m 0) W h HI6.out HK.out (evN_ok m0 (by omega)) (oneS m xb [⟨m, xb, 0, 1⟩]) 0 hd1 hd2
        have hi7 := in_do HI6.out HK.out (evN_ok (k := 6) (f := 0) m0 (by omega : m < 4294967296))
        rw [hd1] at hi7
        have hl := last_yes HK.out m
        have hl2 : Hl.isAt (tickL ⟨xa, xb, xc, xd, xe, xf, xg, xh, xi⟩ (oneS m xb [⟨m, xb, 0, 1⟩])).1.hs m = false := hl
        have hi8 := in_tick hi7 HK.out
        obtain ⟨X, hX⟩ : ∃ X, (tickL ⟨xa, xb, xc, xd, xe, xf, xg, xh, xi⟩ (oneS m xb [⟨m, xb, 0, 1⟩])).1 = X := ⟨_, rfl⟩
        rw [hX] at hl2 hi8
        have DOT := Lib.hid fun r W h => doS ⟨xa, xb, xc, xd, xe, xf, xg, xh, xi⟩ (oneS m xb [⟨m, xb, 0, 1⟩]) r evt W h hi7 HK.out evt_ok X 0 (by rw [doL_tick]; exact hX) (by rw [doL_tick])
        have HGT := Lib.hid fun r W (h : Lie W X r) => Hl.get_any m r.h X.hs r.hc W h.h h.hc m0 (by omega)
        rw [hl2] at HGT
        clear hw hd1 hd2 hi7 hl hl2 hi8 hX
        have k0 := C6.out.c0
        have k1 := C6.out.c1
        have k2 := C6.out.c2
        have k3 := C6.out.c3
        have k4 := C6.out.c4
        have k5 := C6.out.c5
        have k6 := C6.out.c6
        have k7 := C6.out.c7
        have k8 := C6.out.c8
        (try dsimp only at k0 k1 k2 k3 k4 k5 k6 k7 k8)
        go_wp2_with (refine at_loadSt _ w3.heap.size _ S6.out.cx rfl rfl rfl rfl ?_)
        refine (DO.out _ R6.out).mono ?_
        rintro e w7 ⟨r7, v7, rfl, hL, hb⟩
        clear k0 k1 k2 k3 k4 k5 k6 k7 k8
        have BX := Lib.hid (show Below w7.heap.size w7 (w7.alloc (.cells #[.int .i64 0, .int .i64 0, .slice none 0 0, .slice none 0 0, .slice none 0 0, .slice none 0 0, .slice none 0 0] 35)) from (Below.refl _ _).alloc (Nat.le_refl _) _)
        have Z7 := Lib.hid (show Sb (w7.alloc (.cells #[.int .i64 0, .int .i64 0, .slice none 0 0, .slice none 0 0, .slice none 0 0, .slice none 0 0, .slice none 0 0] 35)) w7.heap.size (stl zst zrw) from sb_box w7 zst zrw)
        have bb := hb.trans (BX.out.mono hb.size)
        have B7 := Lib.hid (bthen B6.out bb B6.out.size)
        have C7 := Lib.hid (C6.out.below bb)
        have S7 := Lib.hid (S6.out.below bb)
        have R7 := Lib.hid (hL.below BX.out)
        have hlt7 : w3.heap.size < w7.heap.size := Nat.lt_of_lt_of_le S6.out.lt hb.size
        clear bb hb hL BX B6 C6 S6 R6
        go_wp2_with (refine at_wholeSt _ _ w7.heap.size _ (stl (oneS m xb [⟨m, xb, 0, 1⟩]) r7) Z7.out rfl (stl_ns _ _) (stl_one _ _) rfl rfl rfl rfl ?_)
        intro w8 S8 hb8 hk8
        have B8 := Lib.hid (B7.out.trans (hb8.out _ (by omega)))
        have C8 := Lib.hid (cm_ob C7.out (Ob.put hb8.out hk8.out) (by omega))
        have T8 := Lib.hid (S7.out.other hk8.out (by omega))
        have R8 := Lib.hid (R7.out.apart Z7.out.bs hk8.out)
        clear hb8 hk8 B7 C7 S7 R7 Z7
        have k0 := C8.out.c0
        have k1 := C8.out.c1
        have k2 := C8.out.c2
        have k3 := C8.out.c3
        have k4 := C8.out.c4
        have k5 := C8.out.c5
        have k6 := C8.out.c6
        have k7 := C8.out.c7
        have k8 := C8.out.c8
        (try dsimp only at k0 k1 k2 k3 k4 k5 k6 k7 k8)
        go_wp2_with (refine at_loadSt _ w7.heap.size _ S8.out.cx rfl rfl rfl rfl ?_)
        refine (DOT.out r7 _ R8.out).mono ?_
        rintro e w9 ⟨r9, v9, rfl, hL, hb⟩
        clear k0 k1 k2 k3 k4 k5 k6 k7 k8
        have B9 := Lib.hid (bthen B8.out hb B8.out.size)
        have S9 := Lib.hid (S8.out.below hb)
        have T9 := Lib.hid (T8.out.below hb)
        have R9 := Lib.hid hL
        clear hb hL B8 C8 S8 T8 R8
        go_wp2_with (refine at_wholeSt _ _ w7.heap.size _ (stl X r9) S9.out rfl (stl_ns _ _) (stl_one _ _) rfl rfl rfl rfl ?_)
        intro wa SA hba hka
        have BA := Lib.hid (B9.out.trans (hba.out _ (by omega)))
        have TA := Lib.hid (T9.out.other hka.out (by omega))
        have RA := Lib.hid (R9.out.apart S9.out.bs hka.out)
        clear hba hka B9 T9 S9 R9
        have j2 := SA.out.cx.key 2 _ rfl
        (try dsimp only at j2)
        go_wp2_with fail
        refine (HGT.out r9 _ RA.out).mono ?_
        rintro e wb ⟨rfl, hb⟩
        have BB := Lib.hid (bthen BA.out hb BA.out.size)
        have t6 := (TA.out.below hb).cx.key 6 _ rfl
        (try dsimp only [oneS, List.length_cons, List.length_nil] at t6)
        have hs6 : w3.heap.size < wb.heap.size := Nat.lt_of_lt_of_le TA.out.lt hb.size
        clear hb j2
        generalize Hl.gt X.hs m = hh
        obtain ⟨ha', ho, q0, q1, q2, q3, q4, q5⟩ := hh
        simp only [Hl.hv]
        go_wp2_with fail
        go_ret
        exact ⟨rfl, BB.out.alloc BB.out.size _⟩
      · have hw := one_no ⟨xa, xb, xc, xd, xe, xf, xg, xh, xi⟩ m xb (by omega) (by omega)
        have hd1 : (doL ⟨xa, xb, xc, xd, xe, xf, xg, xh, xi⟩ (oneS m xb [⟨m, xb, 0, 0⟩]) (evN 7 m 0)).1 = oneS m xb [⟨m, xb, xb, 2⟩] := by
          have := congrArg (·.1) hw
          exact this
        have hd2 : (doL ⟨xa, xb, xc, xd, xe, xf, xg, xh, xi⟩ (oneS m xb [⟨m, xb, 0, 0⟩]) (evN 7 m 0)).2.2 = 0 := by
          have := congrArg (·.2.2) hw
          exact this
        have DO := Lib.hid fun W h => doS ⟨xa, xb, xc, xd, xe, xf, xg, xh, xi⟩ (oneS m xb [⟨m, xb, 0, 0⟩]) r6 (evN 7 m 0) W h HI6.out HK.out (evN_ok m0 (by omega)) (oneS m xb [⟨m, xb, xb, 2⟩]) 0 hd1 hd2
        have hi7 := in_do HI6.out HK.out (evN_ok (k := 7) (f := 0) m0 (by omega : m < 4294967296))
        rw [hd1] at hi7
        have hl := last_no HK.out m
        have hl2 : Hl.isAt (tickL ⟨xa, xb, xc, xd, xe, xf, xg, xh, xi⟩ (oneS m xb [⟨m, xb, xb, 2⟩])).1.hs m = true := hl
        have hi8 := in_tick hi7 HK.out
        obtain ⟨X, hX⟩ : ∃ X, (tickL ⟨xa, xb, xc, xd, xe, xf, xg, xh, xi⟩ (oneS m xb [⟨m, xb, xb, 2⟩])).1 = X := ⟨_, rfl⟩
        rw [hX] at hl2 hi8
        have DOT := Lib.hid fun r W h => doS ⟨xa, xb, xc, xd, xe, xf, xg, xh, xi⟩ (oneS m xb [⟨m, xb, xb, 2⟩]) r evt W h hi7 HK.out evt_ok X 0 (by rw [doL_tick]; exact hX) (by rw [doL_tick])
        have HGT := Lib.hid fun r W (h : Lie W X r) => Hl.get_any m r.h X.hs r.hc W h.h h.hc m0 (by omega)
        rw [hl2] at HGT
        clear hw hd1 hd2 hi7 hl hl2 hi8 hX
        have k0 := C6.out.c0
        have k1 := C6.out.c1
        have k2 := C6.out.c2
        have k3 := C6.out.c3
        have k4 := C6.out.c4
        have k5 := C6.out.c5
        have k6 := C6.out.c6
        have k7 := C6.out.c7
        have k8 := C6.out.c8
        (try dsimp only at k0 k1 k2 k3 k4 k5 k6 k7 k8)
        go_wp2_with (refine at_loadSt _ w3.heap.size _ S6.out.cx rfl rfl rfl rfl ?_)
        refine (DO.out _ R6.out).mono ?_
        rintro e w7 ⟨r7, v7, rfl, hL, hb⟩
        clear k0 k1 k2 k3 k4 k5 k6 k7 k8
        have BX := Lib.hid (show Below w7.heap.size w7 (w7.alloc (.cells #[.int .i64 0, .int .i64 0, .slice none 0 0, .slice none 0 0, .slice none 0 0, .slice none 0 0, .slice none 0 0] 35)) from (Below.refl _ _).alloc (Nat.le_refl _) _)
        have Z7 := Lib.hid (show Sb (w7.alloc (.cells #[.int .i64 0, .int .i64 0, .slice none 0 0, .slice none 0 0, .slice none 0 0, .slice none 0 0, .slice none 0 0] 35)) w7.heap.size (stl zst zrw) from sb_box w7 zst zrw)
        have bb := hb.trans (BX.out.mono hb.size)
        have B7 := Lib.hid (bthen B6.out bb B6.out.size)
        have C7 := Lib.hid (C6.out.below bb)
        have S7 := Lib.hid (S6.out.below bb)
        have R7 := Lib.hid (hL.below BX.out)
        have hlt7 : w3.heap.size < w7.heap.size := Nat.lt_of_lt_of_le S6.out.lt hb.size
        clear bb hb hL BX B6 C6 S6 R6
        go_wp2_with (refine at_wholeSt _ _ w7.heap.size _ (stl (oneS m xb [⟨m, xb, xb, 2⟩]) r7) Z7.out rfl (stl_ns _ _) (stl_one _ _) rfl rfl rfl rfl ?_)
        intro w8 S8 hb8 hk8
        have B8 := Lib.hid (B7.out.trans (hb8.out _ (by omega)))
        have C8 := Lib.hid (cm_ob C7.out (Ob.put hb8.out hk8.out) (by omega))
        have T8 := Lib.hid (S7.out.other hk8.out (by omega))
        have R8 := Lib.hid (R7.out.apart Z7.out.bs hk8.out)
        clear hb8 hk8 B7 C7 S7 R7 Z7
        have k0 := C8.out.c0
        have k1 := C8.out.c1
        have k2 := C8.out.c2
        have k3 := C8.out.c3
        have k4 := C8.out.c4
        have k5 := C8.out.c5
        have k6 := C8.out.c6
        have k7 := C8.out.c7
        have k8 := C8.out.c8
        (try dsimp only at k0 k1 k2 k3 k4 k5 k6 k7 k8)
        go_wp2_with (refine at_loadSt _ w7.heap.size _ S8.out.cx rfl rfl rfl rfl ?_)
        refine (DOT.out r7 _ R8.out).mono ?_
        rintro e w9 ⟨r9, v9, rfl, hL, hb⟩
        clear k0 k1 k2 k3 k4 k5 k6 k7 k8
        have B9 := Lib.hid (bthen B8.out hb B8.out.size)
        have S9 := Lib.hid (S8.out.below hb)
        have T9 := Lib.hid (T8.out.below hb)
        have R9 := Lib.hid hL
        clear hb hL B8 C8 S8 T8 R8
        go_wp2_with (refine at_wholeSt _ _ w7.heap.size _ (stl X r9) S9.out rfl (stl_ns _ _) (stl_one _ _) rfl rfl rfl rfl ?_)
        intro wa SA hba hka
        have BA := Lib.hid (B9.out.trans (hba.out _ (by omega)))
        have TA := Lib.hid (T9.out.other hka.out (by omega))
        have RA := Lib.hid (R9.out.apart S9.out.bs hka.out)
        clear hba hka B9 T9 S9 R9
        have j2 := SA.out.cx.key 2 _ rfl
        (try dsimp only at j2)
        go_wp2_with fail
        refine (HGT.out r9 _ RA.out).mono ?_
        rintro e wb ⟨rfl, hb⟩
        have BB := Lib.hid (bthen BA.out hb BA.out.size)
        have t6 := (TA.out.below hb).cx.key 6 _ rfl
        (try dsimp only [oneS, List.length_cons, List.length_nil] at t6)
        have hs6 : w3.heap.size < wb.heap.size := Nat.lt_of_lt_of_le TA.out.lt hb.size
        clear hb j2
        generalize Hl.gt X.hs m = hh
        obtain ⟨ha', ho, q0, q1, q2, q3, q4, q5⟩ := hh
        simp only [Hl.hv]
        go_wp2_with fail
        go_ret
        exact ⟨rfl, BB.out.alloc BB.out.size _⟩
end Go.Proofs.YtilneflfeegnfaaGreat
