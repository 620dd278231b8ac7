/-
  OpsRate's walk: it gives true. Condition: the choice's numbers and the events' are of 8 bits.
-/
import Derived.Test.YtilneflfeegnfaaGreatOpEvsM
set_option linter.unusedSimpArgs false
set_option linter.unusedVariables false
namespace Go.Proofs.YtilneflfeegnfaaGreat
open Go.RowKit
theorem rate_len {c : Cf} (x : Stt) (e : Evt) (hk : Ck c) : ((doL c x e).2.1.length : Int) ≤ c.e ∧ (e.k ≠ 0 → (doL c x e).2.1.length = 0) := by
  have h0 := hk.e0
  by_cases h : e.k = 0
  · refine ⟨?_, fun h' => absurd h h'⟩
    unfold doL
    rw [if_pos h]
    show ((t5 c _).2.length : Int) ≤ c.e
    generalize t4 c (t3 c (t2 c (t1 c x))) = X
    unfold t5
    dsimp only
    have h1 := Pb.lt_room (wt := c.f) (ag := c.g) (now := X.now) (room := c.e) X.pb
    have h2 := Sw.plan_few X.sw c.d (min (c.e - ((Pb.ltO c.f c.g X.now c.e X.pb).2.length : Int)) (16 - ((Pb.ltO c.f c.g X.now c.e X.pb).1.length : Int))) (Sw.ord X.sw X.now)
    have h3 := fold5_len (Sw.planO X.sw c.d X.now (min (c.e - ((Pb.ltO c.f c.g X.now c.e X.pb).2.length : Int)) (16 - ((Pb.ltO c.f c.g X.now c.e X.pb).1.length : Int)))).2 ({ X with pb := (Pb.ltO c.f c.g X.now c.e X.pb).1, sw := (Sw.planO X.sw c.d X.now (min (c.e - ((Pb.ltO c.f c.g X.now c.e X.pb).2.length : Int)) (16 - ((Pb.ltO c.f c.g X.now c.e X.pb).1.length : Int)))).1 }, (Pb.ltO c.f c.g X.now c.e X.pb).2.map Pb.pkO)
    simp only [List.length_map] at h3
    unfold Sw.planO at h3 ⊢
    omega
  · rw [doL_ch c x e h]
    have := (chL_two x e).1
    rw [this]
    exact ⟨by simp; omega, fun _ => rfl⟩
theorem mk_Ev : Mk eEv := fun x => ⟨1, _, rfl, u32_no _⟩
set_option maxRecDepth 100000 in
set_option maxHeartbeats 8000000 in
theorem opsRate_walk (y : Hc) (A : Option Addr) (ys : List Ak) (cap : Nat) (w : World) (hy : y.Ok) (hR : Rw eAk w A ys) (hcap : ys.length ≤ cap) (hok : ∀ x ∈ ys, x.Ok) : Calls Tryz.prog 5 #[hv y, .slice A ys.length cap] w fun e w' => e = .returned (.bool true) ∧ Below w.heap.size w w' := by
  have RA := Lib.hid hR
  have HEV := Lib.hid fun W (h : Rw eAk W A ys) => events_any A ys cap W h hcap hok
  obtain ⟨es, hes⟩ : ∃ es, evsL (ys.take 60) = es := ⟨_, rfl⟩
  have HOK := Lib.hid (show ∀ e ∈ es, e.Ok from hes ▸ evsL_ok _ fun y h => hok y (List.mem_of_mem_take h))
  rw [hes] at HEV
  clear hes hok hR
  have HA := Lib.hid awake_any
  have HC := fun W => choice_any y W hy
  have HK := ck_ch y hy
  have HO := cf_old y hy
  obtain ⟨cf, hcf⟩ : ∃ cf, ch y = cf := ⟨_, rfl⟩
  rw [hcf] at HC HK HO
  obtain ⟨ya, yb, yc, yd, ye, yf, yg, yh, yi⟩ := y
  obtain ⟨xa, xb, xc, xd, xe, xf, xg, xh, xi⟩ := cf
  simp only [cfv, hv] at HC
  replace HC := Lib.hid HC
  replace HK := Lib.hid HK
  have hO1 := HO
  dsimp only at hO1
  simp only [hv]
  have B0 := Lib.hid (show Below w.heap.size w (w.alloc (.cells #[.int .u8 ya, .int .u8 yb, .int .u8 yc, .int .u8 yd, .int .u8 ye, .int .u8 yf, .int .u8 yg, .int .u8 yh, .int .u8 yi] 23)) from (Below.refl _ w).alloc (Nat.le_refl _) _)
  have X0 := Lib.hid (show Cx (w.alloc (.cells #[.int .u8 ya, .int .u8 yb, .int .u8 yc, .int .u8 yd, .int .u8 ye, .int .u8 yf, .int .u8 yg, .int .u8 yh, .int .u8 yi] 23)) w.heap.size [.int .u8 ya, .int .u8 yb, .int .u8 yc, .int .u8 yd, .int .u8 ye, .int .u8 yf, .int .u8 yg, .int .u8 yh, .int .u8 yi] from cx_box w _ _ 23 rfl)
  clear hy hcf HO
  go_enter Tryz.func5, Tryz.ntmps5
  go_wp2_with fail
  change Calls _ _ _ (w.alloc (.cells #[.int .u8 ya, .int .u8 yb, .int .u8 yc, .int .u8 yd, .int .u8 ye, .int .u8 yf, .int .u8 yg, .int .u8 yh, .int .u8 yi] 23)) _
  generalize w.alloc (.cells #[.int .u8 ya, .int .u8 yb, .int .u8 yc, .int .u8 yd, .int .u8 ye, .int .u8 yf, .int .u8 yg, .int .u8 yh, .int .u8 yi] 23) = W0 at *
  refine (HA.out _).mono ?_
  rintro e w1 ⟨rfl, hb⟩
  have X1 := Cx.below X0.out hb
  have B1 := Lib.hid (bthen B0.out hb B0.out.size)
  have l0 := X1.key 0 _ rfl
  have l1 := X1.key 1 _ rfl
  have l2 := X1.key 2 _ rfl
  have l3 := X1.key 3 _ rfl
  have l4 := X1.key 4 _ rfl
  have l5 := X1.key 5 _ rfl
  have l6 := X1.key 6 _ rfl
  have l7 := X1.key 7 _ rfl
  have l8 := X1.key 8 _ rfl
  (try dsimp only at l0 l1 l2 l3 l4 l5 l6 l7 l8)
  clear hb X1 X0 B0 HA
  go_wp2_with fail
  refine (HC.out _).mono ?_
  rintro e w2 ⟨rfl, hb⟩
  clear l0 l1 l2 l3 l4 l5 l6 l7 l8 HC
  have C3 := Lib.hid (show Cm (w2.alloc (.cells #[.int .i64 xa, .int .i64 xb, .int .i64 xc, .int .i64 xd, .int .i64 xe, .int .i64 xf, .int .i64 xg, .int .i64 xh, .int .i64 xi] 27)) w2.heap.size ⟨xa, xb, xc, xd, xe, xf, xg, xh, xi⟩ from cm_box w2 ⟨xa, xb, xc, xd, xe, xf, xg, xh, xi⟩)
  have B3 := Lib.hid (show Below w.heap.size w (w2.alloc (.cells #[.int .i64 xa, .int .i64 xb, .int .i64 xc, .int .i64 xd, .int .i64 xe, .int .i64 xf, .int .i64 xg, .int .i64 xh, .int .i64 xi] 27)) from (bthen B1.out hb B1.out.size).alloc (Nat.le_trans B1.out.size hb.size) _)
  have hg : w.heap.size ≤ w2.heap.size := Nat.le_trans B1.out.size hb.size
  clear hb B1
  have HS2 := Lib.hid (show (w2.alloc (.cells #[.int .i64 xa, .int .i64 xb, .int .i64 xc, .int .i64 xd, .int .i64 xe, .int .i64 xf, .int .i64 xg, .int .i64 xh, .int .i64 xi] 27)).heap.size = w2.heap.size + 1 by simp)
  have C4 := Lib.hid (C3.out.below ((Below.refl (w2.alloc (.cells #[.int .i64 xa, .int .i64 xb, .int .i64 xc, .int .i64 xd, .int .i64 xe, .int .i64 xf, .int .i64 xg, .int .i64 xh, .int .i64 xi] 27)).heap.size _).alloc (Nat.le_refl _) (Stx zst zrw)))
  have B4 := Lib.hid (B3.out.alloc B3.out.size (Stx zst zrw))
  have Z4 := Lib.hid (show Sb ((w2.alloc (.cells #[.int .i64 xa, .int .i64 xb, .int .i64 xc, .int .i64 xd, .int .i64 xe, .int .i64 xf, .int .i64 xg, .int .i64 xh, .int .i64 xi] 27)).alloc (Stx zst zrw)) (w2.alloc (.cells #[.int .i64 xa, .int .i64 xb, .int .i64 xc, .int .i64 xd, .int .i64 xe, .int .i64 xf, .int .i64 xg, .int .i64 xh, .int .i64 xi] 27)).heap.size (stl zst zrw) from sb_box _ zst zrw)
  rw [HS2.out] at Z4
  clear C3 B3
  go_upto_region 5 with fail
  change Code.wp _ _ _ _ ((w2.alloc (.cells #[.int .i64 xa, .int .i64 xb, .int .i64 xc, .int .i64 xd, .int .i64 xe, .int .i64 xf, .int .i64 xg, .int .i64 xh, .int .i64 xi] 27)).alloc (Stx zst zrw))
  generalize (w2.alloc (.cells #[.int .i64 xa, .int .i64 xb, .int .i64 xc, .int .i64 xd, .int .i64 xe, .int .i64 xf, .int .i64 xg, .int .i64 xh, .int .i64 xi] 27)).alloc (Stx zst zrw) = W3 at *
  have RA3 := Lib.hid (RA.out.below B4.out)
  clear HS2
  go_wp2_with fail
  refine (HEV.out _ RA3.out).mono ?_
  rintro e w4 ⟨EA, ec, rfl, hE, hec, hb⟩
  have HH := Lib.hid (show ∃ x r, Sb w4 (w2.heap.size + 1) (stl x r) ∧ Lie w4 x r ∧ Cm w4 w2.heap.size ⟨xa, xb, xc, xd, xe, xf, xg, xh, xi⟩ ∧ Below w.heap.size w w4 ∧ In x ∧ Rw eEv w4 EA es from ⟨zst, zrw, Z4.out.below hb, lie_zero _, C4.out.below hb, bthen B4.out hb B4.out.size, in_zst, hE⟩)
  have hln := hE.1
  clear C4 B4 Z4 RA RA3 HEV hE hb
  obtain ⟨N, hN⟩ : ∃ n, es.length = n := ⟨_, rfl⟩
  have HN := Lib.hid hN
  rw [hN] at hec hln ⊢
  clear hN
  go_wp2_with fail
  go_loopw [21] (fun i wr => ∃ k : Nat, i = .int .i64 k ∧ k ≤ N ∧ Hid (∃ x r, Sb wr (w2.heap.size + 1) (stl x r) ∧ Lie wr x r ∧ Cm wr w2.heap.size ⟨xa, xb, xc, xd, xe, xf, xg, xh, xi⟩ ∧ Below w.heap.size w wr ∧ In x ∧ Rw eEv wr EA es)) (fun i _ => N - (intOf i).toNat)
  case atStart => exact ⟨0, rfl, by omega, HH⟩
  case round =>
    obtain ⟨k, rfl, hk, HR⟩ := hrel
    clear HH
    obtain ⟨x, r6, hS, hL, hC, hB, hI, hE⟩ := HR.out
    by_cases hkN : k < N
    · obtain ⟨ev, hev⟩ : ∃ e, es[k]? = some e := ⟨_, List.getElem?_eq_getElem (by rw [HN.out]; exact hkN)⟩
      have hevk := HOK.out ev (List.mem_of_getElem? hev)
      obtain ⟨y, rfl⟩ := rw_some hE (by rw [HN.out]; omega)
      have hat := hE.at hev
      have DO := Lib.hid fun W h => do_any ⟨xa, xb, xc, xd, xe, xf, xg, xh, xi⟩ x r6 ev W h hI HK.out hevk
      have hID := in_do hI HK.out hevk
      have hrl := rate_len x ev HK.out
      obtain ⟨D, hD⟩ : ∃ D, doL ⟨xa, xb, xc, xd, xe, xf, xg, xh, xi⟩ x ev = D := ⟨_, rfl⟩
      rw [hD] at DO hID hrl
      obtain ⟨X, ps, q⟩ := D
      dsimp only at hID hrl
      clear hD hev hevk
      have ZB0 := Lib.hid (show Cx (wr.alloc (Evx ze)) wr.heap.size (evl ze) from cx_box _ _ _ _ rfl)
      have BL0 := Lib.hid (show Below wr.heap.size wr (wr.alloc (Evx ze)) from (Below.refl _ _).alloc (Nat.le_refl _) _)
      go_upto_region 8 with (first | (refine at_ld_evt (.tmp 23) (y.add (k * 19)) ev hat rfl rfl rfl ?_) | (refine at_storeEv _ _ wr.heap.size ze ev ZB0.out rfl rfl rfl rfl ?_; intro w5 Z5 hb5 hk5; have BL5 := Lib.hid (BL0.out.trans (hb5.out _ (Nat.le_refl _)))))
      have S6 := Lib.hid (hS.below BL5.out)
      have R6 := Lib.hid (hL.below BL5.out)
      have C6 := Lib.hid (hC.below BL5.out)
      have B6 := Lib.hid (bthen hB BL5.out hB.size)
      have E6 := Lib.hid (hE.below BL5.out)
      have hl6 : w2.heap.size + 1 < wr.heap.size := hS.lt
      have hID7 := Lib.hid hID
      clear hS hL hC hB hE hI HR hat ZB0 BL0 hb5 hk5 BL5 hID
      have k0 := C6.out.c0
      have k1 := C6.out.c1
      have k2 := C6.out.c2
      have k3 := C6.out.c3
      have k4 := C6.out.c4
      have k5 := C6.out.c5
      have k6 := C6.out.c6
      have k7 := C6.out.c7
      have k8 := C6.out.c8
      (try dsimp only at k0 k1 k2 k3 k4 k5 k6 k7 k8)
      go_wp2_with (first | (refine at_loadSt _ (w2.heap.size + 1) _ S6.out.cx rfl rfl rfl rfl ?_) | (refine at_loadEv _ wr.heap.size ev Z5.out rfl rfl rfl ?_))
      refine (DO.out _ R6.out).mono ?_
      rintro e w7 ⟨r7, A7, c7, rfl, hL, hr7, hc7, hb⟩
      dsimp only at hL hr7 hc7 ⊢
      clear k0 k1 k2 k3 k4 k5 k6 k7 k8 hr7
      have BX := Lib.hid (show Below w7.heap.size w7 (w7.alloc (Stx zst zrw)) from (Below.refl _ _).alloc (Nat.le_refl _) _)
      have Z7 := Lib.hid (show Sb (w7.alloc (Stx zst zrw)) w7.heap.size (stl zst zrw) from sb_box w7 zst zrw)
      have bb := hb.trans (BX.out.mono hb.size)
      have V7 := Lib.hid (Cx.below Z5.out bb)
      have B7 := Lib.hid (bthen B6.out bb B6.out.size)
      have C7 := Lib.hid (C6.out.below bb)
      have S7 := Lib.hid (S6.out.below bb)
      have E7 := Lib.hid (E6.out.below bb)
      have R7 := Lib.hid (hL.below BX.out)
      have HI7 := hID7
      have hlt7 : wr.heap.size < w7.heap.size := Nat.lt_of_lt_of_le Z5.out.lt hb.size
      have hg7 : w.heap.size ≤ w7.heap.size := by omega
      clear bb hb hL BX B6 C6 S6 R6 E6 Z5 DO hID7
      generalize wr.heap.size = b8 at *
      go_upto_region 9 with (refine at_wholeSt _ _ w7.heap.size _ (stl X r7) Z7.out rfl (stl_ns _ _) (stl_one _ _) rfl rfl rfl rfl ?_; intro w8 S8 hb8 hk8)
      have B8 := Lib.hid (B7.out.trans (hb8.out _ hg7))
      have C8 := Lib.hid (cm_ob C7.out (Ob.put hb8.out hk8.out) (by omega))
      have T8 := Lib.hid (S7.out.other hk8.out (by omega))
      have R8 := Lib.hid (R7.out.apart Z7.out.bs hk8.out)
      have V8 := Lib.hid (cx_other V7.out hk8.out (by omega))
      have RE8 := Lib.hid (rw_apart mk_Ev E7.out Z7.out.bs hk8.out)
      clear hb8 hk8 B7 C7 S7 R7 E7 V7 Z7
      generalize w7.heap.size = b7 at *
      obtain ⟨kx, hkx, hKK, hKI⟩ := R8.out.k
      obtain ⟨N2, hN2⟩ : ∃ n, X.kn.length = n := ⟨_, rfl⟩
      have HN2 := Lib.hid (show kx.length = N2 by rw [← hN2, ← hkx, List.length_map])
      have H8 := Lib.hid (show ∀ z ∈ kx, z.ss.length ≤ 8 from fun z hz => ((Sn.rsB_iff _).1 (HI7.out.kv.ok z.p (hkx ▸ List.mem_map_of_mem hz))).1.2)
      have hp16 := HI7.out.p16
      have hc16 := HI7.out.c16
      have hk96 := HI7.out.kv.le
      have hh48 := HI7.out.hl
      have s2 := S8.out.cx.key 2 _ rfl
      have s4 := S8.out.cx.key 4 _ rfl
      have s5 := S8.out.cx.key 5 _ rfl
      have s6 := S8.out.cx.key 6 _ rfl
      have k4 := C8.out.c4
      have v0 := V8.out.key 0 _ rfl
      dsimp only at s2 s4 s5 s6 k4 v0
      obtain ⟨P, hP⟩ : ∃ n, ps.length = n := ⟨_, rfl⟩
      rw [hP] at hrl hc7 ⊢
      obtain ⟨hrl1, hrl2⟩ := hrl
      rw [hN2] at s4 hk96
      obtain ⟨P2, hP2⟩ : ∃ n, X.pb.length = n := ⟨_, rfl⟩
      rw [hP2] at s5 hp16
      obtain ⟨P3, hP3⟩ : ∃ n, X.cs.length = n := ⟨_, rfl⟩
      rw [hP3] at s6 hc16
      obtain ⟨P4, hP4⟩ : ∃ n, X.hs.length = n := ⟨_, rfl⟩
      rw [hP4] at s2 hh48
      obtain ⟨ek, hek⟩ : ∃ n, ev.k = n := ⟨_, rfl⟩
      rw [hek] at v0 hrl2
      obtain ⟨KA, hKA⟩ : ∃ a, r7.k = a := ⟨_, rfl⟩
      rw [hKA] at s4 hKK
      have HK2 := Lib.hid hKK
      clear hKA hP hN2 hP2 hP3 hP4 hek hkx hKK hKI
      by_cases hk0 : ek = 0
      · subst hk0
        go_wp2_with fail
        go_loopw [75] (fun i wx => ∃ j : Nat, i = .int .i64 j ∧ j ≤ N2 ∧ Hid (Below w8.heap.size w8 wx)) (fun i _ => N2 - (intOf i).toNat)
        case atStart => exact ⟨0, rfl, by omega, Lib.hid (Below.refl _ _)⟩
        case round =>
          obtain ⟨j, rfl, hj, HI⟩ := hrel
          by_cases hjN : j < N2
          · obtain ⟨z, hz⟩ : ∃ z, kx[j]? = some z := ⟨_, List.getElem?_eq_getElem (by rw [HN2.out]; exact hjN)⟩
            obtain ⟨yk, rfl⟩ := rw_some HK2.out (by rw [HN2.out]; omega)
            have hat := (HK2.out.below HI.out).at hz
            have hz8 := H8.out z (List.mem_of_getElem? hz)
            have BX := Lib.hid (HI.out.alloc HI.out.size (.cells #[.int .u32 z.a, .slice z.P z.ss.length z.c] 66))
            clear hz
            go_wp2_with (refine Sn.at_load53 (.tmp 77) rfl rfl (yk.add (j * 2)) z rfl hat ?_)
            go_roundw
            case rel => exact ⟨j + 1, by go_num, by omega, BX⟩
            case measure => simp [intOf]; omega
          · obtain rfl : j = N2 := by omega
            have S9 := Lib.hid (S8.out.below HI.out)
            have T9 := Lib.hid (T8.out.below HI.out)
            have R9 := Lib.hid (R8.out.below HI.out)
            have C9 := Lib.hid (C8.out.below HI.out)
            have B9 := Lib.hid (bthen B8.out HI.out B8.out.size)
            have E9 := Lib.hid (RE8.out.below HI.out)
            go_wp2_with (first | (refine at_loadSt _ b7 _ S9.out.cx rfl rfl rfl rfl ?_) | (refine at_wholeSt _ _ (w2.heap.size + 1) _ (stl X r7) T9.out rfl (stl_ns _ _) (stl_one _ _) rfl rfl rfl rfl ?_; intro wz SZ hbz hkz))
            have HN := Lib.hid (show ∃ x r, Sb wz (w2.heap.size + 1) (stl x r) ∧ Lie wz x r ∧ Cm wz w2.heap.size ⟨xa, xb, xc, xd, xe, xf, xg, xh, xi⟩ ∧ Below w.heap.size w wz ∧ In x ∧ Rw eEv wz (some y) es from ⟨X, r7, SZ.out, R9.out.apart T9.out.bs hkz.out, cm_ob C9.out (Ob.put hbz.out hkz.out) (by omega), B9.out.trans (hbz.out _ (by omega)), HI7.out, rw_apart mk_Ev E9.out T9.out.bs hkz.out⟩)
            go_roundw
            case rel => exact ⟨k + 1, by go_num, by omega, HN⟩
            case measure => simp [intOf]; omega
      · have hkb : (ek == 0) = false := by simpa using hk0
        obtain rfl := hrl2 hk0
        go_wp2_with fail
        go_loopw [75] (fun i wx => ∃ j : Nat, i = .int .i64 j ∧ j ≤ N2 ∧ Hid (Below w8.heap.size w8 wx)) (fun i _ => N2 - (intOf i).toNat)
        case atStart => exact ⟨0, rfl, by omega, Lib.hid (Below.refl _ _)⟩
        case round =>
          obtain ⟨j, rfl, hj, HI⟩ := hrel
          by_cases hjN : j < N2
          · obtain ⟨z, hz⟩ : ∃ z, kx[j]? = some z := ⟨_, List.getElem?_eq_getElem (by rw [HN2.out]; exact hjN)⟩
            obtain ⟨yk, rfl⟩ := rw_some HK2.out (by rw [HN2.out]; omega)
            have hat := (HK2.out.below HI.out).at hz
            have hz8 := H8.out z (List.mem_of_getElem? hz)
            have BX := Lib.hid (HI.out.alloc HI.out.size (.cells #[.int .u32 z.a, .slice z.P z.ss.length z.c] 66))
            clear hz
            go_wp2_with (refine Sn.at_load53 (.tmp 77) rfl rfl (yk.add (j * 2)) z rfl hat ?_)
            go_roundw
            case rel => exact ⟨j + 1, by go_num, by omega, BX⟩
            case measure => simp [intOf]; omega
          · obtain rfl : j = N2 := by omega
            have S9 := Lib.hid (S8.out.below HI.out)
            have T9 := Lib.hid (T8.out.below HI.out)
            have R9 := Lib.hid (R8.out.below HI.out)
            have C9 := Lib.hid (C8.out.below HI.out)
            have B9 := Lib.hid (bthen B8.out HI.out B8.out.size)
            have E9 := Lib.hid (RE8.out.below HI.out)
            go_wp2_with (first | (refine at_loadSt _ b7 _ S9.out.cx rfl rfl rfl rfl ?_) | (refine at_wholeSt _ _ (w2.heap.size + 1) _ (stl X r7) T9.out rfl (stl_ns _ _) (stl_one _ _) rfl rfl rfl rfl ?_; intro wz SZ hbz hkz))
            have HN := Lib.hid (show ∃ x r, Sb wz (w2.heap.size + 1) (stl x r) ∧ Lie wz x r ∧ Cm wz w2.heap.size ⟨xa, xb, xc, xd, xe, xf, xg, xh, xi⟩ ∧ Below w.heap.size w wz ∧ In x ∧ Rw eEv wz (some y) es from ⟨X, r7, SZ.out, R9.out.apart T9.out.bs hkz.out, cm_ob C9.out (Ob.put hbz.out hkz.out) (by omega), B9.out.trans (hbz.out _ (by omega)), HI7.out, rw_apart mk_Ev E9.out T9.out.bs hkz.out⟩)
            go_roundw
            case rel => exact ⟨k + 1, by go_num, by omega, HN⟩
            case measure => simp [intOf]; omega
    · go_wp2_with fail
      go_ret
      exact ⟨rfl, hB⟩
end Go.Proofs.YtilneflfeegnfaaGreat
