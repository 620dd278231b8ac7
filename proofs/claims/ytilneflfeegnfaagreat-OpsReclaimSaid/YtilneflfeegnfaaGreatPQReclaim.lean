/-
  OpsReclaim holds for every nine bytes and every row of events by numbers. No condition.
-/
import Derived.Test.YtilneflfeegnfaaGreatPQg
import Derived.Test.YtilneflfeegnfaaGreatPQf
set_option linter.unusedSimpArgs false
set_option linter.unusedVariables false
namespace Go.Proofs.YtilneflfeegnfaaGreat
open Go.RowKit
set_option maxRecDepth 100000 in
set_option maxHeartbeats 8000000 in
theorem opsReclaim_walk (y : Hc) (A : Option Addr) (ys : List Ak) (cap : Nat) (w : World) (hy : y.Ok) (hR : Rw eAk w A ys) (hcap : ys.length ≤ cap) (hok : ∀ x ∈ ys, x.Ok) : Calls Tryz.prog 6 #[hv y, .slice A ys.length cap] w fun e w' => e = .returned (.bool true) ∧ Below w.heap.size w w' := by
  have RA := Lib.hid hR
  have HEV := Lib.hid fun W (h : Rw eAk W A ys) => events_any A ys cap W h hcap hok
  obtain ⟨es, hes⟩ : ∃ es, evsL (ys.take 60) = es := ⟨_, rfl⟩
  have HOK := Lib.hid (show ∀ e ∈ es, e.Ok from hes ▸ evsL_ok _ fun y h => hok y (List.mem_of_mem_take h))
  rw [hes] at HEV
  clear hes hok hR
  have HA := Lib.hid awake_any
  have HC := fun W => choice_any y W hy
  have HK := ck_ch y hy
  have HO := cf_old y hy
  obtain ⟨cf, hcf⟩ : ∃ cf, ch y = cf := ⟨_, rfl⟩
  rw [hcf] at HC HK HO
  obtain ⟨ya, yb, yc, yd, ye, yf, yg, yh, yi⟩ := y
  obtain ⟨xa, xb, xc, xd, xe, xf, xg, xh, xi⟩ := cf
  simp only [cfv, hv] at HC
  replace HC := Lib.hid HC
  replace HK := Lib.hid HK
  have hO1 := HO
  dsimp only at hO1
  simp only [hv]
  have B0 := Lib.hid (show Below w.heap.size w (w.alloc (.cells #[.int .u8 ya, .int .u8 yb, .int .u8 yc, .int .u8 yd, .int .u8 ye, .int .u8 yf, .int .u8 yg, .int .u8 yh, .int .u8 yi] 23)) from (Below.refl _ w).alloc (Nat.le_refl _) _)
  have X0 := Lib.hid (show Cx (w.alloc (.cells #[.int .u8 ya, .int .u8 yb, .int .u8 yc, .int .u8 yd, .int .u8 ye, .int .u8 yf, .int .u8 yg, .int .u8 yh, .int .u8 yi] 23)) w.heap.size [.int .u8 ya, .int .u8 yb, .int .u8 yc, .int .u8 yd, .int .u8 ye, .int .u8 yf, .int .u8 yg, .int .u8 yh, .int .u8 yi] from cx_box w _ _ 23 rfl)
  clear hy hcf HO
  go_enter Tryz.func6, Tryz.ntmps6
  go_wp2_with fail
  change Calls _ _ _ (w.alloc (.cells #[.int .u8 ya, .int .u8 yb, .int .u8 yc, .int .u8 yd, .int .u8 ye, .int .u8 yf, .int .u8 yg, .int .u8 yh, .int .u8 yi] 23)) _
  generalize w.alloc (.cells #[.int .u8 ya, .int .u8 yb, .int .u8 yc, .int .u8 yd, .int .u8 ye, .int .u8 yf, .int .u8 yg, .int .u8 yh, .int .u8 yi] 23) = W0 at *
  refine (HA.out _).mono ?_
  rintro e w1 ⟨rfl, hb⟩
  have X1 := Cx.below X0.out hb
  have B1 := Lib.hid (bthen B0.out hb B0.out.size)
  have l0 := X1.key 0 _ rfl
  have l1 := X1.key 1 _ rfl
  have l2 := X1.key 2 _ rfl
  have l3 := X1.key 3 _ rfl
  have l4 := X1.key 4 _ rfl
  have l5 := X1.key 5 _ rfl
  have l6 := X1.key 6 _ rfl
  have l7 := X1.key 7 _ rfl
  have l8 := X1.key 8 _ rfl
  (try dsimp only at l0 l1 l2 l3 l4 l5 l6 l7 l8)
  clear hb X1 X0 B0 HA
  go_wp2_with fail
  refine (HC.out _).mono ?_
  rintro e w2 ⟨rfl, hb⟩
  clear l0 l1 l2 l3 l4 l5 l6 l7 l8 HC
  have C3 := Lib.hid (show Cm (w2.alloc (.cells #[.int .i64 xa, .int .i64 xb, .int .i64 xc, .int .i64 xd, .int .i64 xe, .int .i64 xf, .int .i64 xg, .int .i64 xh, .int .i64 xi] 27)) w2.heap.size ⟨xa, xb, xc, xd, xe, xf, xg, xh, xi⟩ from cm_box w2 ⟨xa, xb, xc, xd, xe, xf, xg, xh, xi⟩)
  have B3 := Lib.hid (show Below w.heap.size w (w2.alloc (.cells #[.int .i64 xa, .int .i64 xb, .int .i64 xc, .int .i64 xd, .int .i64 xe, .int .i64 xf, .int .i64 xg, .int .i64 xh, .int .i64 xi] 27)) from (bthen B1.out hb B1.out.size).alloc (Nat.le_trans B1.out.size hb.size) _)
  have hg : w.heap.size ≤ w2.heap.size := Nat.le_trans B1.out.size hb.size
  clear hb B1
  have HS2 := Lib.hid (show (w2.alloc (.cells #[.int .i64 xa, .int .i64 xb, .int .i64 xc, .int .i64 xd, .int .i64 xe, .int .i64 xf, .int .i64 xg, .int .i64 xh, .int .i64 xi] 27)).heap.size = w2.heap.size + 1 by simp)
  have C4 := Lib.hid (C3.out.below ((Below.refl (w2.alloc (.cells #[.int .i64 xa, .int .i64 xb, .int .i64 xc, .int .i64 xd, .int .i64 xe, .int .i64 xf, .int .i64 xg, .int .i64 xh, .int .i64 xi] 27)).heap.size _).alloc (Nat.le_refl _) (Stx zst zrw)))
  have B4 := Lib.hid (B3.out.alloc B3.out.size (Stx zst zrw))
  have Z4 := Lib.hid (show Sb ((w2.alloc (.cells #[.int .i64 xa, .int .i64 xb, .int .i64 xc, .int .i64 xd, .int .i64 xe, .int .i64 xf, .int .i64 xg, .int .i64 xh, .int .i64 xi] 27)).alloc (Stx zst zrw)) (w2.alloc (.cells #[.int .i64 xa, .int .i64 xb, .int .i64 xc, .int .i64 xd, .int .i64 xe, .int .i64 xf, .int .i64 xg, .int .i64 xh, .int .i64 xi] 27)).heap.size (stl zst zrw) from sb_box _ zst zrw)
  rw [HS2.out] at Z4
  clear C3 B3
  go_upto_region 5 with fail
  change Code.wp _ _ _ _ ((w2.alloc (.cells #[.int .i64 xa, .int .i64 xb, .int .i64 xc, .int .i64 xd, .int .i64 xe, .int .i64 xf, .int .i64 xg, .int .i64 xh, .int .i64 xi] 27)).alloc (Stx zst zrw))
  generalize (w2.alloc (.cells #[.int .i64 xa, .int .i64 xb, .int .i64 xc, .int .i64 xd, .int .i64 xe, .int .i64 xf, .int .i64 xg, .int .i64 xh, .int .i64 xi] 27)).alloc (Stx zst zrw) = W3 at *
  have RA3 := Lib.hid (RA.out.below B4.out)
  clear HS2
  go_wp2_with fail
  refine (HEV.out _ RA3.out).mono ?_
  rintro e w4 ⟨EA, ec, rfl, hE, hec, hb⟩
  have HH := Lib.hid (show ∃ x r, Sb w4 (w2.heap.size + 1) (stl x r) ∧ Lie w4 x r ∧ Cm w4 w2.heap.size ⟨xa, xb, xc, xd, xe, xf, xg, xh, xi⟩ ∧ Below w.heap.size w w4 ∧ In x ∧ Jc x ∧ Rw eEv w4 EA es from ⟨zst, zrw, Z4.out.below hb, lie_zero _, C4.out.below hb, bthen B4.out hb B4.out.size, in_zst, jc_zst, hE⟩)
  have hln := hE.1
  clear C4 B4 Z4 RA RA3 HEV hE hb
  obtain ⟨N, hN⟩ : ∃ n, es.length = n := ⟨_, rfl⟩
  have HN := Lib.hid hN
  rw [hN] at hec hln ⊢
  clear hN
  go_wp2_with fail
  go_loopw [26] (fun i wr => ∃ k : Nat, i = .int .i64 k ∧ k ≤ N ∧ Hid (∃ x r, Sb wr (w2.heap.size + 1) (stl x r) ∧ Lie wr x r ∧ Cm wr w2.heap.size ⟨xa, xb, xc, xd, xe, xf, xg, xh, xi⟩ ∧ Below w.heap.size w wr ∧ In x ∧ Jc x ∧ Rw eEv wr EA es)) (fun i _ => N - (intOf i).toNat)
  case atStart => exact ⟨0, rfl, by omega, HH⟩
  case round =>
    obtain ⟨k, rfl, hk, HR⟩ := hrel
    clear HH
    obtain ⟨x, r6, hS, hL, hC, hB, hI, hJ, hE⟩ := HR.out
    by_cases hkN : k < N
    · obtain ⟨ev, hev⟩ : ∃ e, es[k]? = some e := ⟨_, List.getElem?_eq_getElem (by rw [HN.out]; exact hkN)⟩
      have hevk := HOK.out ev (List.mem_of_getElem? hev)
      obtain ⟨y, rfl⟩ := rw_some hE (by rw [HN.out]; omega)
      have hat := hE.at hev
      have DO := Lib.hid fun W h => do_any ⟨xa, xb, xc, xd, xe, xf, xg, xh, xi⟩ x r6 ev W h hI HK.out hevk
      have hID := in_do hI HK.out hevk
      have hJD := jc_do hJ hI ⟨xa, xb, xc, xd, xe, xf, xg, xh, xi⟩ hevk
      have hcl := fun (h0 : ev.k = 0) a h1 h2 => rcl_tick (c := ⟨xa, xb, xc, xd, xe, xf, xg, xh, xi⟩) (a := a) (by have h3 := HK.out.a0; have h4 := HK.out.ab; dsimp only at h3 h4 ⊢; omega) hI hJ h1 (show Hl.isAt (tickL ⟨xa, xb, xc, xd, xe, xf, xg, xh, xi⟩ x).1.hs a = false from h2)
      have hch := fun (h0 : ev.k ≠ 0) (h2 : ev.k ≠ 2) => ch_hs (c := ⟨xa, xb, xc, xd, xe, xf, xg, xh, xi⟩) (x := x) h0 h2
      have htk : ev.k = 0 → (tickL ⟨xa, xb, xc, xd, xe, xf, xg, xh, xi⟩ x).1 = (doL ⟨xa, xb, xc, xd, xe, xf, xg, xh, xi⟩ x ev).1 := fun h0 => by unfold doL; rw [if_pos h0]
      obtain ⟨D, hD⟩ : ∃ D, doL ⟨xa, xb, xc, xd, xe, xf, xg, xh, xi⟩ x ev = D := ⟨_, rfl⟩
      rw [hD] at DO hID hJD hch htk
      obtain ⟨X, ps, q⟩ := D
      dsimp only at hID hJD hch htk
      have HCL := Lib.hid (show ev.k = 0 → ∀ a, Hl.isAt x.hs a = true → Hl.isAt X.hs a = false → ∃ i k, Cs.fnd a x.cs = some i ∧ x.cs[i]? = some k ∧ k.g = 1 ∧ Sn.any (Sn.sg x.kn a) = true ∧ Sn.tk (Sn.sg x.kn a) ≤ k.r ∧ 0 ≤ Sn.tk (Sn.sg x.kn a) ∧ xb ≤ X.now - Sn.tk (Sn.sg x.kn a) ∧ X.now ≤ 1099511627776 from fun h0 a h1 h2 => by
        have e := htk h0
        have := hcl h0 a h1 (by rw [e]; exact h2)
        rw [e] at this
        exact this)
      have HCH := Lib.hid hch
      have HJ7 := Lib.hid hJD
      have HIX := Lib.hid hI
      clear hD hev hevk hcl hch htk hJD hJ
      have ZB0 := Lib.hid (show Cx (wr.alloc (Evx ze)) wr.heap.size (evl ze) from cx_box _ _ _ _ rfl)
      have BL0 := Lib.hid (show Below wr.heap.size wr (wr.alloc (Evx ze)) from (Below.refl _ _).alloc (Nat.le_refl _) _)
      go_upto_region 8 with (first | (refine at_ld_evt (.tmp 28) (y.add (k * 19)) ev hat rfl rfl rfl ?_) | (refine at_storeEv _ _ wr.heap.size ze ev ZB0.out rfl rfl rfl rfl ?_; intro w5 Z5 hb5 hk5; have BL5 := Lib.hid (BL0.out.trans (hb5.out _ (Nat.le_refl _)))))
      have S6 := Lib.hid (hS.below BL5.out)
      have R6 := Lib.hid (hL.below BL5.out)
      have C6 := Lib.hid (hC.below BL5.out)
      have B6 := Lib.hid (bthen hB BL5.out hB.size)
      have E6 := Lib.hid (hE.below BL5.out)
      have hl6 : w2.heap.size + 1 < wr.heap.size := hS.lt
      have hID7 := Lib.hid hID
      clear hS hL hC hB hE hI HR hat ZB0 BL0 hb5 hk5 BL5 hID
      have k0 := C6.out.c0
      have k1 := C6.out.c1
      have k2 := C6.out.c2
      have k3 := C6.out.c3
      have k4 := C6.out.c4
      have k5 := C6.out.c5
      have k6 := C6.out.c6
      have k7 := C6.out.c7
      have k8 := C6.out.c8
      (try dsimp only at k0 k1 k2 k3 k4 k5 k6 k7 k8)
      go_wp2_with (first | (refine at_loadSt _ (w2.heap.size + 1) _ S6.out.cx rfl rfl rfl rfl ?_) | (refine at_loadEv _ wr.heap.size ev Z5.out rfl rfl rfl ?_))
      refine (DO.out _ R6.out).mono ?_
      rintro e w7 ⟨r7, A7, c7, rfl, hL, hr7, hc7, hb⟩
      dsimp only at hL hr7 hc7 ⊢
      clear k0 k1 k2 k3 k4 k5 k6 k7 k8 hr7
      have BX := Lib.hid (show Below w7.heap.size w7 (w7.alloc (Stx zst zrw)) from (Below.refl _ _).alloc (Nat.le_refl _) _)
      have Z7 := Lib.hid (show Sb (w7.alloc (Stx zst zrw)) w7.heap.size (stl zst zrw) from sb_box w7 zst zrw)
      have bb := hb.trans (BX.out.mono hb.size)
      have V7 := Lib.hid (Cx.below Z5.out bb)
      have B7 := Lib.hid (bthen B6.out bb B6.out.size)
      have C7 := Lib.hid (C6.out.below bb)
      have S7 := Lib.hid (S6.out.below bb)
      have E7 := Lib.hid (E6.out.below bb)
      have RX7 := Lib.hid (R6.out.below bb)
      have R7 := Lib.hid (hL.below BX.out)
      have HI7 := hID7
      have hlt7 : wr.heap.size < w7.heap.size := Nat.lt_of_lt_of_le Z5.out.lt hb.size
      have hg7 : w.heap.size ≤ w7.heap.size := by omega
      clear bb hb hL BX B6 C6 S6 R6 E6 Z5 DO hID7
      generalize wr.heap.size = b8 at *
      go_upto_region 9 with (refine at_wholeSt _ _ w7.heap.size _ (stl X r7) Z7.out rfl (stl_ns _ _) (stl_one _ _) rfl rfl rfl rfl ?_; intro w8 S8 hb8 hk8)
      have B8 := Lib.hid (B7.out.trans (hb8.out _ hg7))
      have C8 := Lib.hid (cm_ob C7.out (Ob.put hb8.out hk8.out) (by omega))
      have T8 := Lib.hid (S7.out.other hk8.out (by omega))
      have R8 := Lib.hid (R7.out.apart Z7.out.bs hk8.out)
      have V8 := Lib.hid (cx_other V7.out hk8.out (by omega))
      have RE8 := Lib.hid (rw_apart mk_Ev E7.out Z7.out.bs hk8.out)
      have RX8 := Lib.hid (RX7.out.apart Z7.out.bs hk8.out)
      clear hb8 hk8 B7 C7 S7 R7 E7 V7 Z7 RX7
      generalize w7.heap.size = b7 at *
      have s2 := S8.out.cx.key 2 _ rfl
      have s0 := S8.out.cx.key 0 _ rfl
      have t2 := T8.out.cx.key 2 _ rfl
      have t4 := T8.out.cx.key 4 _ rfl
      have t6 := T8.out.cx.key 6 _ rfl
      have k1 := C8.out.c1
      have v0 := V8.out.key 0 _ rfl
      dsimp only at s0 s2 t2 t4 t6 k1 v0
      obtain ⟨ek, hek⟩ : ∃ n, ev.k = n := ⟨_, rfl⟩
      rw [hek] at v0 HCL HCH
      obtain ⟨N2, hN2⟩ : ∃ n, x.hs.length = n := ⟨_, rfl⟩
      have HN2 := Lib.hid hN2
      obtain ⟨HA2, hHA⟩ : ∃ a, r6.h = a := ⟨_, rfl⟩
      have HH2 := Lib.hid (show Hl.Hs w8 HA2 x.hs from hHA ▸ RX8.out.h)
      have hNle := HIX.out.hl
      rw [hN2] at hNle
      have HLX := Lib.hid (show ek ≠ 0 → ek ≠ 2 → N2 ≤ X.hs.length from fun h0 h2 => hN2 ▸ HCH.out h0 h2)
      rw [hN2, hHA] at t2
      have HEK := Lib.hid hek
      clear hek hN2 hHA HCH
      have hX48 := HI7.out.hl
      by_cases hk0 : ek = 0
      · subst hk0
        go_wp2_with fail
        go_loopw [44] (fun i wx => ∃ j : Nat, i = .int .i64 j ∧ j ≤ N2 ∧ Hid (Below w8.heap.size w8 wx)) (fun i _ => N2 - (intOf i).toNat)
        case atStart => exact ⟨0, rfl, by omega, Lib.hid (Below.refl _ _)⟩
        case round =>
          obtain ⟨j, rfl, hj, HI⟩ := hrel
          by_cases hjN : j < N2
          · obtain ⟨z, hz⟩ : ∃ z, x.hs[j]? = some z := ⟨_, List.getElem?_eq_getElem (by rw [HN2.out]; exact hjN)⟩
            obtain ⟨yk, rfl⟩ := Hl.hs_some HH2.out (by rw [HN2.out]; omega)
            have hat := (HH2.out.below HI.out).at hz
            have hzm := List.mem_of_getElem? hz
            have hza := HIX.out.ha z hzm
            have hzi := (HIX.out.hs.mem hzm).1
            have HG := Lib.hid fun W (hW : Lie W X r7) => Hl.get_any z.a r7.h X.hs r7.hc W hW.h hW.hc hza.1 hza.2
            have HF := Lib.hid fun W (hW : Lie W x r6) => Cs.find_any z.a r6.c x.cs r6.cc W hW.c
            have HL := Lib.hid fun W (hW : Lie W x r6) => Sn.last_any z.a r6.k x.kn r6.kc W hW.k hW.kc hza.1 hza.2
            have HCZ := Lib.hid (HCL.out (by simp) z.a hzi)
            have BX := Lib.hid (show Below w8.heap.size w8 (wr.alloc (Hl.Hx z)) from HI.out.alloc HI.out.size (Hl.Hx z))
            have hZ0 : (wr.alloc (Hl.Hx z)).cell? ⟨wr.heap.size, 0, none⟩ = some (.int .u32 z.a) := by simp [Hl.Hx]
            have hZl : wr.heap.size < (wr.alloc (Hl.Hx z)).heap.size := by simp
            clear hz hzm hza hzi
            unfold Hl.Hx at BX hZ0 hZl
            go_upto_region 13 with (refine Hl.at_load33 (.tmp 46) rfl rfl (yk.add (j * 8)) z rfl hat ?_)
            change Code.wp _ _ _ _ (wr.alloc (.cells #[.int .u32 z.a, .string z.T, .int .u8 z.m0, .int .u8 z.m1, .int .u8 z.m2, .int .u8 z.m3, .int .u8 z.m4, .int .u8 z.m5] 44))
            generalize wr.alloc (.cells #[.int .u32 z.a, .string z.T, .int .u8 z.m0, .int .u8 z.m1, .int .u8 z.m2, .int .u8 z.m3, .int .u8 z.m4, .int .u8 z.m5] 44) = w9 at *
            have q2 := (S8.out.below BX.out).cx.key 2 _ rfl
            (try dsimp only at q2)
            clear hat
            go_wp2_with fail
            refine (HG.out _ (R8.out.below BX.out)).mono ?_
            rintro e w10 ⟨rfl, hb⟩
            have B10 := Lib.hid (bthen BX.out hb BX.out.size)
            have hZ1 : w10.cell? ⟨wr.heap.size, 0, none⟩ = some (.int .u32 z.a) := by rw [hb.cell (p := ⟨wr.heap.size, 0, none⟩) hZl]; exact hZ0
            have hZl1 : wr.heap.size < w10.heap.size := Nat.lt_of_lt_of_le hZl hb.size
            clear q2 hb hZ0 hZl BX HG
            obtain ⟨g, hg⟩ : ∃ g, Hl.gt X.hs z.a = g := ⟨_, rfl⟩
            obtain ⟨a', o', n0, n1, n2, n3, n4, n5⟩ := g
            rw [hg]
            simp only [Hl.hv]
            clear hg
            have B11 := Lib.hid (show Below w8.heap.size w8 (w10.alloc (.cells #[.int .u32 a', .string o', .int .u8 n0, .int .u8 n1, .int .u8 n2, .int .u8 n3, .int .u8 n4, .int .u8 n5] 44)) from B10.out.alloc B10.out.size _)
            have hZ2 : (w10.alloc (.cells #[.int .u32 a', .string o', .int .u8 n0, .int .u8 n1, .int .u8 n2, .int .u8 n3, .int .u8 n4, .int .u8 n5] 44)).cell? ⟨wr.heap.size, 0, none⟩ = some (.int .u32 z.a) := by rw [((Below.refl w10.heap.size w10).alloc (Nat.le_refl _) _).cell (p := ⟨wr.heap.size, 0, none⟩) hZl1]; exact hZ1
            have hZl2 : wr.heap.size < (w10.alloc (.cells #[.int .u32 a', .string o', .int .u8 n0, .int .u8 n1, .int .u8 n2, .int .u8 n3, .int .u8 n4, .int .u8 n5] 44)).heap.size := Nat.lt_trans hZl1 (by simp)
            clear hZ1 hZl1 B10
            go_upto_region 14 with fail
            change Code.wp _ _ _ _ (w10.alloc (.cells #[.int .u32 a', .string o', .int .u8 n0, .int .u8 n1, .int .u8 n2, .int .u8 n3, .int .u8 n4, .int .u8 n5] 44))
            generalize w10.alloc (.cells #[.int .u32 a', .string o', .int .u8 n0, .int .u8 n1, .int .u8 n2, .int .u8 n3, .int .u8 n4, .int .u8 n5] 44) = w11 at *
            cases hI9 : Hl.isAt X.hs z.a
            · obtain ⟨i, kc, hfi, hki, hkg, hany, hle, htk0, hold, hnow⟩ := HCZ.out hI9
              have HFI := Lib.hid hfi
              have HAN := Lib.hid hany
              have q6 := (T8.out.below B11.out).cx.key 6 _ rfl
              (try dsimp only at q6)
              clear hfi hany HCZ hI9
              go_wp2_with fail
              refine (HF.out _ (RX8.out.below B11.out)).mono ?_
              rintro e w12 ⟨rfl, hb⟩
              rw [HFI.out, show Cs.fnI (some i) = (i : Int) from rfl]
              have B12 := Lib.hid (bthen B11.out hb B11.out.size)
              have hZ3 : w12.cell? ⟨wr.heap.size, 0, none⟩ = some (.int .u32 z.a) := by rw [hb.cell (p := ⟨wr.heap.size, 0, none⟩) hZl2]; exact hZ2
              clear q6 hb hZ2 hZl2 B11 HF
              have q4 := (T8.out.below B12.out).cx.key 4 _ rfl
              (try dsimp only at q4)
              go_wp2_with fail
              refine (HL.out _ (RX8.out.below B12.out)).mono ?_
              rintro e w13 ⟨rfl, ⟨n, rfl⟩⟩
              rw [HAN.out]
              obtain ⟨L, hL⟩ : ∃ L, Sn.tk (Sn.sg x.kn z.a) = L := ⟨_, rfl⟩
              rw [hL] at hle htk0 hold ⊢
              clear hL q4 HL
              have B13 := Lib.hid (show Below w8.heap.size w8 (w12.drewN n) from bdrewN B12.out n)
              generalize w12.drewN n = w13 at *
              have hil : i < x.cs.length := (List.getElem?_eq_some_iff.1 hki).1
              have hc16 := HIX.out.c16
              have RC := Lib.hid (RX8.out.below B13.out)
              obtain ⟨yc, hyc⟩ := rw_some RC.out.c (by omega)
              have RCC := RC.out.c
              have q6 := (T8.out.below B13.out).cx.key 6 _ rfl
              have q1 := (C8.out.below B13.out).c1
              have q0 := (S8.out.below B13.out).cx.key 0 _ rfl
              (try dsimp only at q6 q1 q0)
              rw [hyc] at q6 RCC
              obtain ⟨f1, -, f3⟩ := Cs.rw_f RCC hki
              rw [hkg] at f3
              obtain ⟨rc, hrc⟩ : ∃ n, kc.r = n := ⟨_, rfl⟩
              obtain ⟨nx, hnx⟩ : ∃ n, X.now = n := ⟨_, rfl⟩
              obtain ⟨lc, hlc⟩ : ∃ n, x.cs.length = n := ⟨_, rfl⟩
              rw [hrc] at f1 hle
              rw [hnx] at q0 hold hnow
              rw [hlc] at q6 hil hc16
              have hcc := RC.out.cc
              rw [hlc] at hcc
              clear hrc hnx hlc hki RCC
              have hxb0 : 0 ≤ xb := by have h3 := HK.out.a0; have h4 := HK.out.ab; dsimp only at h3 h4; omega
              have hnl0 : 0 ≤ nx - L := by omega
              have hnl1 : nx - L ≤ 1099511627776 := by omega
              have hd1 : decide ((i : Int) < 0) = false := decide_eq_false (by omega)
              have hd2 : decide (rc < L) = false := decide_eq_false (by omega)
              have hd3 : decide (nx - L < xb) = false := decide_eq_false (by omega)
              go_wp2_with fail
              go_roundw
              case rel => exact ⟨j + 1, by go_num, by omega, B13⟩
              case measure => simp [intOf]; omega
            · clear HCZ HF HL
              go_wp2_with fail
              go_roundw
              case rel => exact ⟨j + 1, by go_num, by omega, B11⟩
              case measure => simp [intOf]; omega
          · obtain rfl : j = N2 := by omega
            have S9 := Lib.hid (S8.out.below HI.out)
            have T9 := Lib.hid (T8.out.below HI.out)
            have R9 := Lib.hid (R8.out.below HI.out)
            have C9 := Lib.hid (C8.out.below HI.out)
            have B9 := Lib.hid (bthen B8.out HI.out B8.out.size)
            have E9 := Lib.hid (RE8.out.below HI.out)
            have v9 := (Cx.below V8.out HI.out).key 0 _ rfl
            (try dsimp only at v9)
            rw [HEK.out] at v9
            go_upto_region 22 with fail
            go_wp2_with (first | (refine at_loadSt _ b7 _ S9.out.cx rfl rfl rfl rfl ?_) | (refine at_wholeSt _ _ (w2.heap.size + 1) _ (stl X r7) T9.out rfl (stl_ns _ _) (stl_one _ _) rfl rfl rfl rfl ?_; intro wz SZ hbz hkz))
            have HN := Lib.hid (show ∃ x r, Sb wz (w2.heap.size + 1) (stl x r) ∧ Lie wz x r ∧ Cm wz w2.heap.size ⟨xa, xb, xc, xd, xe, xf, xg, xh, xi⟩ ∧ Below w.heap.size w wz ∧ In x ∧ Jc x ∧ Rw eEv wz (some y) es from ⟨X, r7, SZ.out, R9.out.apart T9.out.bs hkz.out, cm_ob C9.out (Ob.put hbz.out hkz.out) (by omega), B9.out.trans (hbz.out _ (by omega)), HI7.out, HJ7.out, rw_apart mk_Ev E9.out T9.out.bs hkz.out⟩)
            go_roundw
            case rel => exact ⟨k + 1, by go_num, by omega, HN⟩
            case measure => simp [intOf]; omega
      · have hkb : (ek == 0) = false := by simpa using hk0
        have S9 := S8
        have T9 := T8
        have R9 := R8
        have C9 := C8
        have B9 := B8
        have E9 := RE8
        by_cases hk2 : ek = 2
        · subst hk2
          go_upto_region 22 with fail
          go_wp2_with (first | (refine at_loadSt _ b7 _ S9.out.cx rfl rfl rfl rfl ?_) | (refine at_wholeSt _ _ (w2.heap.size + 1) _ (stl X r7) T9.out rfl (stl_ns _ _) (stl_one _ _) rfl rfl rfl rfl ?_; intro wz SZ hbz hkz))
          have HN := Lib.hid (show ∃ x r, Sb wz (w2.heap.size + 1) (stl x r) ∧ Lie wz x r ∧ Cm wz w2.heap.size ⟨xa, xb, xc, xd, xe, xf, xg, xh, xi⟩ ∧ Below w.heap.size w wz ∧ In x ∧ Jc x ∧ Rw eEv wz (some y) es from ⟨X, r7, SZ.out, R9.out.apart T9.out.bs hkz.out, cm_ob C9.out (Ob.put hbz.out hkz.out) (by omega), B9.out.trans (hbz.out _ (by omega)), HI7.out, HJ7.out, rw_apart mk_Ev E9.out T9.out.bs hkz.out⟩)
          go_roundw
          case rel => exact ⟨k + 1, by go_num, by omega, HN⟩
          case measure => simp [intOf]; omega
        · have hkc : (ek == 2) = false := by simpa using hk2
          have hln2 := HLX.out hk0 hk2
          obtain ⟨M, hM⟩ : ∃ n, X.hs.length = n := ⟨_, rfl⟩
          rw [hM] at s2 hln2 hX48
          have hlt : decide ((M : Int) < (N2 : Int)) = false := decide_eq_false (by omega)
          clear hM
          go_upto_region 22 with fail
          go_wp2_with (first | (refine at_loadSt _ b7 _ S9.out.cx rfl rfl rfl rfl ?_) | (refine at_wholeSt _ _ (w2.heap.size + 1) _ (stl X r7) T9.out rfl (stl_ns _ _) (stl_one _ _) rfl rfl rfl rfl ?_; intro wz SZ hbz hkz))
          have HN := Lib.hid (show ∃ x r, Sb wz (w2.heap.size + 1) (stl x r) ∧ Lie wz x r ∧ Cm wz w2.heap.size ⟨xa, xb, xc, xd, xe, xf, xg, xh, xi⟩ ∧ Below w.heap.size w wz ∧ In x ∧ Jc x ∧ Rw eEv wz (some y) es from ⟨X, r7, SZ.out, R9.out.apart T9.out.bs hkz.out, cm_ob C9.out (Ob.put hbz.out hkz.out) (by omega), B9.out.trans (hbz.out _ (by omega)), HI7.out, HJ7.out, rw_apart mk_Ev E9.out T9.out.bs hkz.out⟩)
          go_roundw
          case rel => exact ⟨k + 1, by go_num, by omega, HN⟩
          case measure => simp [intOf]; omega
    · go_wp2_with fail
      go_ret
      exact ⟨rfl, hB⟩
end Go.Proofs.YtilneflfeegnfaaGreat
namespace Go.Proofs.YtilneflfeegnfaaGreat.opsReclaim
open Go.ChangeShapes Go.WideShapes Go.ChangeAt Go.RowKit
open Go.ChangeMaps (open_string shut_string)
set_option maxRecDepth 100000 in
theorem lifted (os : Os) (started : os.Started) (H : Type) (enc : TypeId × Value → H) :
    ReturnsInHanded {} Tryz.checked os 6 .any (Rows.opsReclaimSpec.pre6 enc Tryz.prog Tryz.f6 Rows.opsReclaimRow.domain false) (Rows.opsReclaimSpec.post enc Tryz.prog Tryz.f6 false true false false) := by
  refine returnsInHanded_of_change_sized (C := Tryz.checked) own started (by kernel_rfl) Tryz.func6
    (ChangeSpec.witness6 (enc := enc) (C := Tryz.checked) false ⟨#[], #[.agg #[.int .u8 0, .int .u8 0, .int .u8 0, .int .u8 0, .int .u8 0, .int .u8 0, .int .u8 0, .int .u8 0, .int .u8 0], .slice none 0 0], []⟩ 8 (by kernel_rfl) (by kernel_rfl) (by kernel_rfl) (by kernel_rfl)) ?_
  intro W base args ds gs before hval0 hW _ hsz0 _
  have hsz : (DataW.weightsEach Tryz.prog (Tryz.f6.params.toList ++ Rows.opsReclaimSpec.plain.varTypes Tryz.prog) (ds ++ gs)).all (· ≤ reachBytes) = true := hsz0
  have hval : ∀ (j : Nat) t v, Tryz.f6.params[j]? = some t → args[j]? = some v → Value.okWide Tryz.prog W .any base t v := hval0
  have hW' := hW
  obtain ⟨p, q, hA0, hV, rfl, hfz, hnd⟩ := hW
  have hA : DataW.TrodAll enc Tryz.prog W 0 (fun _ => true) true Tryz.f6.params.toList args.toList ds p := hA0
  rw [Tryz.params6] at hA hval hsz
  obtain ⟨v0, vs0, d0, ds0, p0, q0, hargs, rfl, rfl, h0, r0⟩ := trodAll_cons hA
  obtain ⟨v1, vs1, d1, ds1, p1, q1, rfl, rfl, rfl, h1, r1⟩ := trodAll_cons r0
  obtain ⟨rfl, rfl, rfl⟩ := trodAll_nil r1
  obtain rfl : args = #[v0, v1] := by cases args; simp_all
  obtain ⟨rfl, rfl⟩ := trodVars_none hV
  have k0 := h0
  have lt0 : ∀ x ∈ p0, x.block < W.heap.size := by obtain ⟨m, hm⟩ := k0; exact DataW.trod_lt m _ _ _ hm
  obtain ⟨a0, rfl, w0⟩ := open_hc (hval 0 23 v0 rfl rfl) h0
  obtain ⟨a1, len1, cap1, rfl⟩ := okWide_slice Tryz.underlying24 (hval 1 24 v1 rfl rfl)
  have k1 := h1
  have lt1 : ∀ x ∈ p1, x.block < W.heap.size := by obtain ⟨m, hm⟩ := k1; exact DataW.trod_lt m _ _ _ hm
  obtain ⟨z1, rfl, w1, g1, o1⟩ := open_acts h1 (fun elems spare hd => sized_slice hsz (j := 1) (t := 24) (e := 79) rfl (by rw [hd]; rfl) Tryz.underlying24)
  clear hA0 hval0 hsz0
  refine (opsReclaim_walk a0 a1 z1 cap1 W w0 w1 g1 o1).mono fun e W' ⟨he, bel⟩ => ?_
  subst he
  exact ⟨_, rfl, _, _, _, [], _, [], hW', trodAll_mk1 (shut_bool Tryz.underlying4 _), (trodAll_cons_mk (Below.trod laidOut (by kernel_rfl) (of_decide_eq_true (by kernel_rfl)) k0 bel lt0) (trodAll_cons_mk (Below.trod laidOut (by kernel_rfl) (of_decide_eq_true (by kernel_rfl)) k1 bel lt1) trodAll_mk0)), rfl, bel.frame _, fun h => by cases h⟩
theorem over : Rows.OpsReclaimSaid :=
  OpenClaim.holds_of_wide 6 Tryz.f6 rfl rfl rfl rfl rfl rfl rfl ⟨rfl, rfl, rfl, rfl, rfl⟩ rfl rfl rfl rfl rfl (by kernel_rfl) Tryz.func6 (by kernel_rfl)
    (of_decide_eq_true (by kernel_rfl)) (by unfold Func.isWrapper; first | (rw [if_pos (by decide +kernel)]; kernel_rfl) | (rw [if_neg (by decide +kernel)]; exact ⟨rfl, rfl⟩))
    (fun os started H enc _ => lifted os started H enc)
end Go.Proofs.YtilneflfeegnfaaGreat.opsReclaim
namespace Go.Proofs.YtilneflfeegnfaaGreat
theorem opsReclaim_holds : Rows.OpsReclaimSaid := opsReclaim.over
end Go.Proofs.YtilneflfeegnfaaGreat
