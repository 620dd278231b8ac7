/-
  The contract of the statements' own model where a case is raised. Conditions: the row lies in memory, has up to 900 cases, and its ticks may be.
-/
import Derived.BigGuard
import Derived.Test.YtmaaniokfpkbjaaMdo
import Derived.Test.YtmaaniokfpkbjaaQTail
set_option linter.unusedSimpArgs false
set_option linter.unusedVariables false
namespace Go.Proofs.Ytmaaniokfpkbjaa
open Go.RowKit

set_option maxRecDepth 100000 in
set_option maxHeartbeats 16000000 in
theorem mraise_any (c : Cf) (a : Ac) (now : Int) (A : Option Addr) (xs : List Ca) (cap : Nat) (w : World) (h : Rw eA w A xs) (hc : xs.length ≤ cap) (hx9 : xs.length ≤ 900) (ha : a.Ok) (hd : ∀ x ∈ xs, 0 ≤ x.d ∧ x.d ≤ 1099511627776) (hn0 : 0 ≤ now) (hn1 : now ≤ 1099511627776) (ho2 : a.o % 8 < 2) :
    Calls Try.prog 14 #[cfv c, .slice A xs.length cap, acv a, .int .i64 now] w (OutPost w (rsO c.i now (nr a.p) xs).1 (rsO c.i now (nr a.p) xs).2) := by
  have hln := h.1
  have HB0 := Lib.hid (show Below w.heap.size w ((w.alloc (Cfx c)).alloc (Acx a)) from ((Below.refl _ w).alloc (Nat.le_refl _) _).alloc (by simp) _)
  have C0 := Lib.hid (show Cm ((w.alloc (Cfx c)).alloc (Acx a)) w.heap.size c from (cm_box w c).below ((Below.refl _ _).alloc (Nat.le_refl _) _))
  have A0 := Lib.hid (show Am ((w.alloc (Cfx c)).alloc (Acx a)) (w.heap.size + 1) a by have := am_box (w.alloc (Cfx c)) a; rw [World.size_alloc] at this; exact this)
  have R0 := Lib.hid (h.below HB0.out)
  obtain ⟨o0, o1⟩ := ha.o
  obtain ⟨p0, p1⟩ := ha.p
  have HNR := Lib.hid fun W => near_any a.p W p0 p1
  obtain ⟨b, hb0⟩ : ∃ b, nr a.p = b := ⟨_, rfl⟩
  rw [hb0] at HNR ⊢
  clear hb0
  have hs0 : w.heap.size + 1 < ((w.alloc (Cfx c)).alloc (Acx a)).heap.size := by simp
  have HOP := Lib.hid fun x W => lopen_any x W
  have HQT := Lib.hid fun x (hx : x ∈ xs) W => lquiet_any c x now W (hd x hx).1 (hd x hx).2 hn0 hn1
  have HFS := Lib.hid fun k x => @fnd_step b xs k x
  have HAS := Lib.hid fun k x => @aq_take c.i b now xs k x
  have HAT := Lib.hid fun k (hk : k < xs.length) => at_of_lt hk
  have HRS := Lib.hid (show rsO c.i now b xs = rs1 c.i now b xs (fnd b xs) from rfl)
  have HR1 := Lib.hid (show rs1 c.i now b xs none = if aqB c.i b now xs = true then ([], 8) else if xs.length < 16 then (xs ++ [nw b now], 0) else rs2 xs (nw b now) (spO c.i now xs) from rfl)
  have HSO := Lib.hid (show spO c.i now xs = spk c.i now xs xs.length from rfl)
  have HSN := Lib.hid fun k x (hx : xs[k]? = some x) => spk_succ (q := c.i) (now := now) hx
  have HSA := Lib.hid fun k p => @spk_at c.i now xs k p
  have HNW := Lib.hid (show nw b now = ⟨b, now, 0, 0⟩ by unfold nw; rw [cl_in hn0 hn1])
  rw [HNW.out] at HR1
  clear h hd
  obtain ⟨L, hL⟩ : ∃ L, xs.length = L := ⟨_, rfl⟩
  have HL := Lib.hid hL
  rw [hL] at hln hc hx9 HAT HR1 HSO ⊢
  clear hL
  unfold cfv Cfx acv Acx at *
  go_enter Try.func14, Try.ntmps14
  go_upto_region 1 with fail
  generalize (w.alloc (.cells #[.int .i64 c.a, .int .i64 c.b, .int .i64 c.c, .int .i64 c.d, .int .i64 c.e, .int .i64 c.f, .int .i64 c.g, .int .i64 c.h, .int .i64 c.i] 27)).alloc (.cells #[.int .u8 a.o, .int .u8 a.p, .int .u8 a.n] 31) = W0 at *
  obtain ⟨a0, a1, a2⟩ := A0.out.c
  go_wp2_with fail
  refine (HNR.out _).mono ?_
  rintro e w1 ⟨rfl, rfl⟩
  go_wp2_with fail
  clear a0 a1 a2
  go_loopw [11, 12, 25] (fun f u i wr => ∃ k : Nat, i = .int .i64 k ∧ k ≤ L ∧ f = .int .i64 (fnI (fnd b (xs.take k))) ∧ u = .bool (aqB c.i b now (xs.take k)) ∧ Hid (Below W0.heap.size W0 wr)) (fun _ _ i _ => L - (intOf i).toNat)
  case atStart => exact ⟨0, rfl, by omega, by simp [fnd, fnI], by simp [aqB], Lib.hid (Below.refl _ _)⟩
  case round =>
    obtain ⟨k, rfl, hk, rfl, rfl, HW⟩ := hrel
    by_cases hkL : k < L
    · obtain ⟨x, hx⟩ := HAT.out k hkL
      obtain ⟨y, rfl⟩ := rw_some R0.out (by rw [HL.out]; omega)
      have hat := (R0.out.below HW.out).at hx
      have Q1 := Lib.hid (qb_box wr x)
      have hsz : wr.heap.size < (wr.alloc (Cax x)).heap.size := by simp
      have B1 := Lib.hid (show Below W0.heap.size W0 (wr.alloc (Cax x)) from HW.out.alloc HW.out.size _)
      have C1 := Lib.hid (C0.out.keep B1.out (by omega) B1.out.size)
      have HFX := Lib.hid (HFS.out k x hx)
      have HSX := Lib.hid (HAS.out k x hx)
      have HOX := Lib.hid (HOP.out x)
      have HQX := Lib.hid (HQT.out x (List.mem_of_getElem? hx))
      have HFM := Lib.hid (show fm b x = ((x.a == b) && opB x) from rfl)
      have HAM := Lib.hid (show am c.i b now x = ((x.a == b) && qtB c.i x now) from rfl)
      clear hx
      obtain ⟨o, ho⟩ : ∃ o, fnd b (xs.take k) = o := ⟨_, rfl⟩
      obtain ⟨u, hu⟩ : ∃ u, aqB c.i b now (xs.take k) = u := ⟨_, rfl⟩
      obtain ⟨b1, hb1⟩ : ∃ q, opB x = q := ⟨_, rfl⟩
      obtain ⟨b2, hb2⟩ : ∃ q, qtB c.i x now = q := ⟨_, rfl⟩
      rw [ho] at HFX ⊢
      rw [hu] at HSX ⊢
      rw [hb1] at HOX HFM
      rw [hb2] at HQX HAM
      clear ho hu hb1 hb2
      unfold cav Cax at *
      go_upto_region 6 with (refine at_load37 (.tmp 28) rfl rfl (y.add (k * 4)) x rfl hat ?_)
      generalize wr.alloc (.cells #[.int .u32 x.a, .int .i64 x.r, .int .i64 x.d, .int .i64 x.g] 37) = W1 at *
      clear hat
      obtain ⟨q0, q1, q2, q3⟩ := Q1.out.c
      cases he : (x.a == b)
      · have HE := Lib.hid he
        have HV := Lib.hid (show fnd b (xs.take (k + 1)) = o by rw [HFX.out, HFM.out, HE.out]; cases o <;> rfl)
        have HU := Lib.hid (show aqB c.i b now (xs.take (k + 1)) = u by rw [HSX.out, HAM.out, HE.out]; cases u <;> rfl)
        cases u
        · go_wp2_with fail
          go_roundw
          case rel => exact ⟨k + 1, by go_num, by omega, by rw [HV.out], by rw [HU.out], B1⟩
          case measure => simp [intOf]; omega
        · go_wp2_with fail
          go_roundw
          case rel => exact ⟨k + 1, by go_num, by omega, by rw [HV.out], by rw [HU.out], B1⟩
          case measure => simp [intOf]; omega
      · have HE := Lib.hid he
        go_wp2_with fail
        refine (HOX.out _).mono ?_
        rintro e w2 ⟨rfl, hb⟩
        have B2 := Lib.hid (B1.out.trans (hb.mono B1.out.size))
        have Q2 := Lib.hid (Q1.out.below hb)
        have C2 := Lib.hid (C1.out.below hb)
        have hsz2 : wr.heap.size < w2.heap.size := Nat.lt_of_lt_of_le hsz hb.size
        clear hb q0 q1 q2 q3 Q1 C1 B1
        obtain ⟨q0, q1, q2, q3⟩ := Q2.out.c
        obtain ⟨cq0, cq1, cq2, cq3, cq4, cq5, cq6, cq7, cq8⟩ : _ := And.intro C2.out.c0 (And.intro C2.out.c1 (And.intro C2.out.c2 (And.intro C2.out.c3 (And.intro C2.out.c4 (And.intro C2.out.c5 (And.intro C2.out.c6 (And.intro C2.out.c7 C2.out.c8)))))))
        have HU := Lib.hid (show aqB c.i b now (xs.take (k + 1)) = (u || b2) by rw [HSX.out, HAM.out, HE.out]; rfl)
        cases b1
        · have HV := Lib.hid (show fnd b (xs.take (k + 1)) = o by rw [HFX.out, HFM.out]; cases o <;> simp)
          cases u
          · go_wp2_with fail
            refine (HQX.out _).mono ?_
            rintro e w3 ⟨rfl, hb⟩
            have B3 := Lib.hid (B2.out.trans (hb.mono B2.out.size))
            clear hb q0 q1 q2 q3
            go_wp2_with fail
            go_roundw
            case rel => exact ⟨k + 1, by go_num, by omega, by rw [HV.out], by rw [HU.out]; rfl, B3⟩
            case measure => simp [intOf]; omega
          · go_wp2_with fail
            go_roundw
            case rel => exact ⟨k + 1, by go_num, by omega, by rw [HV.out], by rw [HU.out]; rfl, B2⟩
            case measure => simp [intOf]; omega
        · cases o with
          | none =>
            have HV := Lib.hid (show fnd b (xs.take (k + 1)) = some k by rw [HFX.out, HFM.out, HE.out]; rfl)
            dsimp only [fnI]
            cases u
            · go_wp2_with fail
              refine (HQX.out _).mono ?_
              rintro e w3 ⟨rfl, hb⟩
              have B3 := Lib.hid (B2.out.trans (hb.mono B2.out.size))
              clear hb q0 q1 q2 q3
              go_wp2_with fail
              go_roundw
              case rel => exact ⟨k + 1, by go_num, by omega, by rw [HV.out]; rfl, by rw [HU.out]; rfl, B3⟩
              case measure => simp [intOf]; omega
            · go_wp2_with fail
              go_roundw
              case rel => exact ⟨k + 1, by go_num, by omega, by rw [HV.out]; rfl, by rw [HU.out]; rfl, B2⟩
              case measure => simp [intOf]; omega
          | some i =>
            have HV := Lib.hid (show fnd b (xs.take (k + 1)) = some i by rw [HFX.out]; rfl)
            have hi0 : decide ((i : Int) < 0) = false := decide_eq_false (by omega)
            dsimp only [fnI]
            cases u
            · go_wp2_with fail
              refine (HQX.out _).mono ?_
              rintro e w3 ⟨rfl, hb⟩
              have B3 := Lib.hid (B2.out.trans (hb.mono B2.out.size))
              clear hb q0 q1 q2 q3
              go_wp2_with fail
              go_roundw
              case rel => exact ⟨k + 1, by go_num, by omega, by rw [HV.out]; rfl, by rw [HU.out]; rfl, B3⟩
              case measure => simp [intOf]; omega
            · go_wp2_with fail
              go_roundw
              case rel => exact ⟨k + 1, by go_num, by omega, by rw [HV.out]; rfl, by rw [HU.out]; rfl, B2⟩
              case measure => simp [intOf]; omega
    · obtain rfl : k = L := by omega
      have hfull : xs.take k = xs := List.take_of_length_le (by rw [HL.out]; exact Nat.le_refl _)
      rw [hfull]
      obtain ⟨wo, rfl⟩ : ∃ wo, wo = wr := ⟨_, rfl⟩
      have RW := Lib.hid (R0.out.below HW.out)
      have AM := Lib.hid (A0.out.below HW.out)
      have CW := Lib.hid (C0.out.below HW.out)
      have BW := Lib.hid (HB0.out.trans (HW.out.mono HB0.out.size))
      have hsw : w.heap.size + 1 < wo.heap.size := Nat.lt_of_lt_of_le hs0 HW.out.size
      clear hfull HW R0 A0 C0 HB0 hs0 HFS HAS
      have ON := Lib.hid (World.ownsRow_nil wo wo.heap.size 37 4)
      have hlen0 : 0 + k ≤ 1000000000000 := by omega
      obtain ⟨a0, a1, a2⟩ := AM.out.c
      go_upto_region 10 with fail
      go_wp2_with (at_builtin; refine wpList_append_rw tA _ rfl (.const (.slice none 0 0)) (.tmp 57) rfl wo.heap.size (.slice none 0 0) 0 [] (by simp [Act.eval]) ON.out A k cap xs (by simp [Act.eval, Act.put]) HL.out.symm RW.out hlen0 (Nat.le_refl _) ?_)
      intro v15 W5 ho15 hg5
      have hb5 : Below wo.heap.size wo W5 := (Below.refl _ wo).grown hg5 (Nat.le_refl _) (fun k e => by cases e)
      have B5 := Lib.hid (BW.out.trans (hb5.mono BW.out.size))
      have C5 := Lib.hid (CW.out.below hb5)
      have AM5 := Lib.hid (AM.out.below hb5)
      have hsb : w.heap.size ≤ wo.heap.size := by omega
      have hs5 : wo.heap.size ≤ W5.heap.size := hb5.size
      clear hb5 hg5 ON a0 a1 a2 CW AM BW RW
      have O5 := Lib.hid (show W5.ownsRow wo.heap.size 37 4 v15 k (eA.cs xs) from ho15)
      clear ho15
      obtain ⟨a0, a1, a2⟩ := AM5.out.c
      obtain ⟨of, hof⟩ : ∃ o, fnd b xs = o := ⟨_, rfl⟩
      rw [hof] at HRS ⊢
      clear hof
      generalize rsO c.i now b xs = s at *
      cases of with
      | some i =>
        have HT := Lib.hid (show s = ([], 6) by rw [HRS.out]; rfl)
        have hi0 : (0 : Int) ≤ i := by omega
        dsimp only [fnI]
        go_wp2_with fail
        go_ret2
        rw [HT.out]
        exact out_no w W5 6 B5.out
      | none =>
        rw [HR1.out] at HRS
        dsimp only [fnI]
        obtain ⟨aq, haq⟩ : ∃ q, aqB c.i b now xs = q := ⟨_, rfl⟩
        rw [haq] at HRS ⊢
        clear haq HR1
        cases aq
        · rw [if_neg (by simp)] at HRS
          by_cases h16 : k < 16
          · have h16' : decide ((16 : Int) ≤ (k : Int)) = false := decide_eq_false (by omega)
            rw [if_pos h16] at HRS
            have HT := Lib.hid HRS.out
            clear HRS
            obtain ⟨A5, c5, rfl, -, -, -, -, -⟩ := own_rw (E := eA) (n := k) O5.out (by rw [HL.out]; exact hln)
            rw [HL.out] at O5 ⊢
            have HLY := Lib.hid (show (xs ++ [(⟨b, now, 0, 0⟩ : Ca)]).length = k + 1 by rw [List.length_append, HL.out]; rfl)
            have O5k := Lib.hid (show W5.ownsRow wo.heap.size 37 4 (.slice A5 k c5) k (eA.cs xs) from by have := O5.out; exact this)
            have RX9 := Lib.hid (hs_box W5 ⟨b, now, 0, 0⟩)
            have OA9 := Lib.hid (own_keep O5k.out ((Below.refl _ W5).alloc (Nat.le_refl _) (Cax ⟨b, now, 0, 0⟩)))
            have BA9 := Lib.hid (B5.out.alloc B5.out.size (Cax ⟨b, now, 0, 0⟩))
            have hbn9 : wo.heap.size ≤ (W5.alloc (Cax ⟨b, now, 0, 0⟩)).heap.size := Nat.le_trans hs5 (by simp)
            have hln9 : k + 1 ≤ 1000000000000 := by omega
            unfold Cax at *
            dsimp only at RX9 OA9 BA9 hbn9
            go_wp2_with (at_builtin; refine wpList_append_rw tA _ rfl (.tmp 113) (.tmp 117) rfl wo.heap.size _ (k) xs (by simp [Act.eval, Act.put]) OA9.out _ 1 1 [⟨b, now, 0, 0⟩] (by simp [Act.eval, Act.put]) rfl RX9.out hln9 hbn9 ?_)
            intro v9 w9 ho9 hg9
            have O9 := Lib.hid ho9
            have B9 := Lib.hid (BA9.out.grown hg9 BA9.out.size (fun j hj => Nat.le_trans hsb (OA9.out.lt j hj).1))
            clear ho9 hg9
            go_wp2_with fail
            go_ret2
            rw [HT.out]
            exact out_yes (by rw [HLY.out]; exact O9.out) (by rw [HLY.out]; omega) B9.out
          · have h16' : (16 : Int) ≤ (k : Int) := by omega
            rw [if_neg h16] at HRS
            obtain ⟨g, c5, rfl, hLc⟩ := own_g O5.out (by omega)
            have hgB := O5.out.lt g rfl
            have HTS := Lib.hid (show ∀ p, spO c.i now xs = some p → s = (del xs p ++ [⟨b, now, 0, 0⟩], 0) from fun p hp => by rw [HRS.out, hp]; rfl)
            have HTN := Lib.hid (show spO c.i now xs = none → s = ([], 4) from fun hp => by rw [HRS.out, hp]; rfl)
            clear HRS
            go_wp2_with fail
            go_loopw [17, 72] (fun p i wr => ∃ q : Nat, i = .int .i64 q ∧ q ≤ k ∧ p = .int .i64 (fnI (spk c.i now xs q)) ∧ Hid (Below W5.heap.size W5 wr)) (fun _ i _ => k - (intOf i).toNat)
            case atStart => exact ⟨0, rfl, by omega, rfl, Lib.hid (Below.refl _ _)⟩
            case round =>
              obtain ⟨q, rfl, hq, rfl, HW⟩ := hrel
              by_cases hqk : q < k
              · obtain ⟨x, hx⟩ := HAT.out q hqk
                have hat := own_at (own_keep O5.out HW.out) (by rw [HL.out]; exact hln) hx
                have Q1 := Lib.hid (qb_box wr x)
                have hsz : wr.heap.size < (wr.alloc (Cax x)).heap.size := by simp
                have B1 := Lib.hid (show Below W5.heap.size W5 (wr.alloc (Cax x)) from HW.out.alloc HW.out.size _)
                have C1 := Lib.hid (C5.out.below B1.out)
                have O1 := Lib.hid (own_keep O5.out B1.out)
                have HSX := Lib.hid (HSN.out q x hx)
                have HAK := Lib.hid fun p => HSA.out q p
                have HOX := Lib.hid (HOP.out x)
                have HQX := Lib.hid (HQT.out x (List.mem_of_getElem? hx))
                clear hx
                obtain ⟨o, ho⟩ : ∃ o, spk c.i now xs q = o := ⟨_, rfl⟩
                rw [ho] at HSX HAK ⊢
                clear ho
                have HS1 := Lib.hid (show sp1 c.i now xs o q x = if opB x = true then o else if qtB c.i x now = true then o else sp2 xs q x o from rfl)
                obtain ⟨b1, hb1⟩ : ∃ q, opB x = q := ⟨_, rfl⟩
                obtain ⟨b2, hb2⟩ : ∃ q, qtB c.i x now = q := ⟨_, rfl⟩
                rw [hb1] at HOX HS1
                rw [hb2] at HQX HS1
                clear hb1 hb2
                unfold cav Cax at *
                go_upto_region 22 with (refine at_load37 (.tmp 75) rfl rfl ⟨g, q * 4, none⟩ x rfl hat ?_)
                generalize wr.alloc (.cells #[.int .u32 x.a, .int .i64 x.r, .int .i64 x.d, .int .i64 x.g] 37) = W1 at *
                clear hat
                obtain ⟨q0, q1, q2, q3⟩ := Q1.out.c
                have rq2 := cell_regrown q2
                have HOR := Lib.hid fun d' os => Calls.regrown_of (d := d') (os := os) (HOX.out (Sort.grow (redrawn W1 d') os))
                have HQR := Lib.hid fun d' os => Calls.regrown_of (d := d') (os := os) (HQX.out (Sort.grow (redrawn W1 d') os))
                have HLQ := Lib.hid (show ∀ W', (∃ p : Regrown, W' = Sort.grow (redrawn W1 p.d) p.os) → ∀ j v, (cal x)[j]? = some v → W'.cell? ((⟨wr.heap.size, 0, none⟩ : Addr).add j) = some v from by rintro W' ⟨p, rfl⟩; exact (Q1.out.below (below_regrown W1 p.d p.os)).at)
                have HLC := Lib.hid (show ∀ W', (∃ p : Regrown, W' = Sort.grow (redrawn W1 p.d) p.os) → ∀ j v, (cfl c)[j]? = some v → W'.cell? ((⟨w.heap.size, 0, none⟩ : Addr).add j) = some v from by rintro W' ⟨p, rfl⟩; exact (C1.out.below (below_regrown W1 p.d p.os)).at)
                cases b1
                · cases b2
                  · cases o with
                    | none =>
                      have HV := Lib.hid (show sp1 c.i now xs none q x = some q by rw [HS1.out]; rfl)
                      dsimp only [fnI]
                      refine wp_region_quiet_below (by kernel_rfl) (by kernel_rfl) ?_
                      repeat (first | go_big_quiet_skip | (refine quiet_load37 (.tmp 19) ⟨wr.heap.size, 0, none⟩ x HLQ.out ?_ ?_ ?_ ?_; rotate_left; (with_reducible rfl); rfl; rotate_left; kernel_rfl; simp only [Act.put, List.setIfInBounds_toArray, List.set_cons_zero, List.set_cons_succ]) | (refine quiet_load27 (.tmp 4) ⟨w.heap.size, 0, none⟩ c HLC.out ?_ ?_ ?_ ?_; rotate_left; (with_reducible rfl); rfl; rotate_left; kernel_rfl; simp only [Act.put, List.setIfInBounds_toArray, List.set_cons_zero, List.set_cons_succ]) | go_big_quiet_step (first | (go_at_call 20; exact HOR.out _ _) | (go_at_call 31; exact HQR.out _ _)))
                      refine wpQuiet_nil ?_
                      intro _ hw'
                      obtain ⟨⟨dq, osq⟩, hw''⟩ := hw'
                      subst hw''
                      have B3 := Lib.hid (B1.out.trans ((below_regrown W1 dq osq).mono B1.out.size))
                      go_wp2_with fail
                      go_roundw
                      case rel => exact ⟨q + 1, by go_num, by omega, by rw [HSX.out, HV.out]; rfl, B3⟩
                      case measure => simp [intOf]; omega
                    | some p =>
                      obtain ⟨z, hz, hpq, -, -⟩ := HAK.out p rfl
                      have hzd : xs.getD p zc = z := by rw [List.getD_eq_getElem?_getD, hz]; rfl
                      have HS2 := Lib.hid (show sp1 c.i now xs (some p) q x = if x.d < z.d then some q else some p by rw [HS1.out, ← hzd]; rfl)
                      obtain ⟨rz, -⟩ := own_f O1.out (by rw [HL.out]; exact hln) hz
                      have rrz := cell_regrown rz
                      have hpk : p < k := by omega
                      have hpn : decide ((p : Int) < 0) = false := decide_eq_false (by omega)
                      clear hzd hz rz
                      dsimp only [fnI]
                      by_cases hd : x.d < z.d
                      · have HV := Lib.hid (show sp1 c.i now xs (some p) q x = some q by rw [HS2.out, if_pos hd])
                        refine wp_region_quiet_below (by kernel_rfl) (by kernel_rfl) ?_
                        repeat (first | go_big_quiet_skip | (refine quiet_load37 (.tmp 19) ⟨wr.heap.size, 0, none⟩ x HLQ.out ?_ ?_ ?_ ?_; rotate_left; (with_reducible rfl); rfl; rotate_left; kernel_rfl; simp only [Act.put, List.setIfInBounds_toArray, List.set_cons_zero, List.set_cons_succ]) | (refine quiet_load27 (.tmp 4) ⟨w.heap.size, 0, none⟩ c HLC.out ?_ ?_ ?_ ?_; rotate_left; (with_reducible rfl); rfl; rotate_left; kernel_rfl; simp only [Act.put, List.setIfInBounds_toArray, List.set_cons_zero, List.set_cons_succ]) | go_big_quiet_step (first | (go_at_call 20; exact HOR.out _ _) | (go_at_call 31; exact HQR.out _ _)))
                        refine wpQuiet_nil ?_
                        intro _ hw'
                        obtain ⟨⟨dq, osq⟩, hw''⟩ := hw'
                        subst hw''
                        have B3 := Lib.hid (B1.out.trans ((below_regrown W1 dq osq).mono B1.out.size))
                        go_wp2_with fail
                        go_roundw
                        case rel => exact ⟨q + 1, by go_num, by omega, by rw [HSX.out, HV.out]; rfl, B3⟩
                        case measure => simp [intOf]; omega
                      · have hd' : decide (x.d < z.d) = false := decide_eq_false hd
                        have HV := Lib.hid (show sp1 c.i now xs (some p) q x = some p by rw [HS2.out, if_neg hd])
                        refine wp_region_quiet_below (by kernel_rfl) (by kernel_rfl) ?_
                        repeat (first | go_big_quiet_skip | (refine quiet_load37 (.tmp 19) ⟨wr.heap.size, 0, none⟩ x HLQ.out ?_ ?_ ?_ ?_; rotate_left; (with_reducible rfl); rfl; rotate_left; kernel_rfl; simp only [Act.put, List.setIfInBounds_toArray, List.set_cons_zero, List.set_cons_succ]) | (refine quiet_load27 (.tmp 4) ⟨w.heap.size, 0, none⟩ c HLC.out ?_ ?_ ?_ ?_; rotate_left; (with_reducible rfl); rfl; rotate_left; kernel_rfl; simp only [Act.put, List.setIfInBounds_toArray, List.set_cons_zero, List.set_cons_succ]) | go_big_quiet_step (first | (go_at_call 20; exact HOR.out _ _) | (go_at_call 31; exact HQR.out _ _)))
                        refine wpQuiet_nil ?_
                        intro _ hw'
                        obtain ⟨⟨dq, osq⟩, hw''⟩ := hw'
                        subst hw''
                        have B3 := Lib.hid (B1.out.trans ((below_regrown W1 dq osq).mono B1.out.size))
                        go_wp2_with fail
                        go_roundw
                        case rel => exact ⟨q + 1, by go_num, by omega, by rw [HSX.out, HV.out]; rfl, B3⟩
                        case measure => simp [intOf]; omega
                  · have HV := Lib.hid (show sp1 c.i now xs o q x = o by rw [HS1.out]; rfl)
                    refine wp_region_quiet_below (by kernel_rfl) (by kernel_rfl) ?_
                    repeat (first | go_big_quiet_skip | (refine quiet_load37 (.tmp 19) ⟨wr.heap.size, 0, none⟩ x HLQ.out ?_ ?_ ?_ ?_; rotate_left; (with_reducible rfl); rfl; rotate_left; kernel_rfl; simp only [Act.put, List.setIfInBounds_toArray, List.set_cons_zero, List.set_cons_succ]) | (refine quiet_load27 (.tmp 4) ⟨w.heap.size, 0, none⟩ c HLC.out ?_ ?_ ?_ ?_; rotate_left; (with_reducible rfl); rfl; rotate_left; kernel_rfl; simp only [Act.put, List.setIfInBounds_toArray, List.set_cons_zero, List.set_cons_succ]) | go_big_quiet_step (first | (go_at_call 20; exact HOR.out _ _) | (go_at_call 31; exact HQR.out _ _)))
                    refine wpQuiet_nil ?_
                    intro _ hw'
                    obtain ⟨⟨dq, osq⟩, hw''⟩ := hw'
                    subst hw''
                    have B3 := Lib.hid (B1.out.trans ((below_regrown W1 dq osq).mono B1.out.size))
                    go_wp2_with fail
                    go_roundw
                    case rel => exact ⟨q + 1, by go_num, by omega, by rw [HSX.out, HV.out], B3⟩
                    case measure => simp [intOf]; omega
                · have HV := Lib.hid (show sp1 c.i now xs o q x = o by rw [HS1.out]; rfl)
                  refine wp_region_quiet_below (by kernel_rfl) (by kernel_rfl) ?_
                  repeat (first | go_big_quiet_skip | (refine quiet_load37 (.tmp 19) ⟨wr.heap.size, 0, none⟩ x HLQ.out ?_ ?_ ?_ ?_; rotate_left; (with_reducible rfl); rfl; rotate_left; kernel_rfl; simp only [Act.put, List.setIfInBounds_toArray, List.set_cons_zero, List.set_cons_succ]) | (refine quiet_load27 (.tmp 4) ⟨w.heap.size, 0, none⟩ c HLC.out ?_ ?_ ?_ ?_; rotate_left; (with_reducible rfl); rfl; rotate_left; kernel_rfl; simp only [Act.put, List.setIfInBounds_toArray, List.set_cons_zero, List.set_cons_succ]) | go_big_quiet_step (first | (go_at_call 20; exact HOR.out _ _) | (go_at_call 31; exact HQR.out _ _)))
                  refine wpQuiet_nil ?_
                  intro _ hw'
                  obtain ⟨⟨dq, osq⟩, hw''⟩ := hw'
                  subst hw''
                  have B3 := Lib.hid (B1.out.trans ((below_regrown W1 dq osq).mono B1.out.size))
                  go_wp2_with fail
                  go_roundw
                  case rel => exact ⟨q + 1, by go_num, by omega, by rw [HSX.out, HV.out], B3⟩
                  case measure => simp [intOf]; omega
              · obtain rfl : k = q := by omega
                have B6 := Lib.hid (B5.out.trans (HW.out.mono B5.out.size))
                have O6 := Lib.hid (own_keep O5.out HW.out)
                have hs6 : wo.heap.size ≤ wr.heap.size := Nat.le_trans hs5 HW.out.size
                have HSK := Lib.hid fun p => HSA.out k p
                rw [← HSO.out] at HSK ⊢
                obtain ⟨so, hso⟩ : ∃ o, spO c.i now xs = o := ⟨_, rfl⟩
                rw [hso] at HSK HTS HTN ⊢
                clear hso
                cases so with
                | none =>
                  have HT := Lib.hid (HTN.out rfl)
                  dsimp only [fnI]
                  go_wp2_with fail
                  go_ret2
                  rw [HT.out]
                  exact out_no w wr 4 B6.out
                | some P =>
                  obtain ⟨z, -, hPk, -, -⟩ := HSK.out P rfl
                  have HT := Lib.hid (HTS.out P rfl)
                  dsimp only [fnI]
                  have hPn : decide ((P : Int) < 0) = false := decide_eq_false (by omega)
                  have RS1 := fun W => run_sl29 (some ⟨g, 0, none⟩) k c5 P (by omega) W
                  have RS2 : ∀ W, (Instr.slice 29 (.slice (some ⟨g, 0, none⟩) k c5) (some (.int .i64 ((P : Int) + 1))) none none).run Try.prog W = .ok (.slice (dA 4 (some ⟨g, 0, none⟩) c5 (P + 1)) (k - (P + 1)) (c5 - (P + 1))) W := fun W => by
                    have := run_sl29l (some ⟨g, 0, none⟩) k c5 (P + 1) (by omega) hLc W
                    rwa [show ((P + 1 : Nat) : Int) = (P : Int) + 1 by omega] at this
                  have HDL := Lib.hid (show k - (P + 1) = (xs.drop (P + 1)).length by rw [List.length_drop, HL.out])
                  have HLY := Lib.hid (show (del xs P ++ [(⟨b, now, 0, 0⟩ : Ca)]).length = k - 1 + 1 by rw [List.length_append, del_len (by rw [HL.out]; exact hPk), HL.out]; rfl)
                  go_upto_region 27 with fail
                  refine wp_region_quiet_tail_lit 7 (by kernel_rfl) (by kernel_rfl) ?_
                  simp only [List.take_succ_cons, List.take_zero, List.drop_succ_cons, List.drop_zero]
                  repeat (go_big_quiet_step (fail))
                  refine wpQuiet_nil ?_
                  rintro w7 ⟨n7, rfl⟩
                  have O7 := Lib.hid (own_keep O6.out (bdrewN (Below.refl _ wr) n7))
                  have B7 := Lib.hid (bdrewN B6.out n7)
                  have hs7 : wo.heap.size ≤ (wr.drewN n7).heap.size := hs6
                  generalize wr.drewN n7 = W7 at *
                  have OS7 := Lib.hid (own_short O7.out HL.out (p := P) (by omega))
                  have RD7 := Lib.hid (show Rw eA W7 (dA 4 (some ⟨g, 0, none⟩) c5 (P + 1)) (xs.drop (P + 1)) from (own_slice (E := eA) O7.out (by rw [HL.out]; exact hln)).rest (c := c5) (by rw [HL.out]; exact hLc) (P + 1))
                  have hl7 : P + (k - (P + 1)) ≤ 1000000000000 := by omega
                  go_wp2_with (at_builtin; refine wpList_append_rw tA _ rfl (.tmp 107) (.tmp 111) rfl wo.heap.size _ P (xs.take P) (by simp [Act.eval, Act.put]) OS7.out _ (k - (P + 1)) (c5 - (P + 1)) (xs.drop (P + 1)) (by simp [Act.eval, Act.put]) HDL.out RD7.out hl7 hs7 ?_)
                  intro v8 w8 ho8 hg8
                  have B8 := Lib.hid (B7.out.grown hg8 B7.out.size (fun j hj => Nat.le_trans hsb (OS7.out.lt j hj).1))
                  have hs8 : wo.heap.size ≤ w8.heap.size := Nat.le_trans hs7 hg8.size
                  rw [show P + (k - (P + 1)) = k - 1 by omega] at ho8
                  have O8 := Lib.hid (show w8.ownsRow wo.heap.size 37 4 v8 (k - 1) (eA.cs (del xs P)) from ho8)
                  clear ho8 hg8
                  have RX9 := Lib.hid (hs_box w8 ⟨b, now, 0, 0⟩)
                  have OA9 := Lib.hid (own_keep O8.out ((Below.refl _ w8).alloc (Nat.le_refl _) (Cax ⟨b, now, 0, 0⟩)))
                  have BA9 := Lib.hid (B8.out.alloc B8.out.size (Cax ⟨b, now, 0, 0⟩))
                  have hbn9 : wo.heap.size ≤ (w8.alloc (Cax ⟨b, now, 0, 0⟩)).heap.size := Nat.le_trans hs8 (by simp)
                  have hln9 : k - 1 + 1 ≤ 1000000000000 := by omega
                  unfold Cax at *
                  dsimp only at RX9 OA9 BA9 hbn9
                  go_wp2_with (at_builtin; refine wpList_append_rw tA _ rfl (.tmp 113) (.tmp 117) rfl wo.heap.size _ (k - 1) (del xs P) (by simp [Act.eval, Act.put]) OA9.out _ 1 1 [⟨b, now, 0, 0⟩] (by simp [Act.eval, Act.put]) rfl RX9.out hln9 hbn9 ?_)
                  intro v9 w9 ho9 hg9
                  have O9 := Lib.hid ho9
                  have B9 := Lib.hid (BA9.out.grown hg9 BA9.out.size (fun j hj => Nat.le_trans hsb (OA9.out.lt j hj).1))
                  clear ho9 hg9
                  go_wp2_with fail
                  go_ret2
                  rw [HT.out]
                  exact out_yes (by rw [HLY.out]; exact O9.out) (by rw [HLY.out]; omega) B9.out
        · rw [if_pos rfl] at HRS
          have HT := Lib.hid HRS.out
          go_wp2_with fail
          go_ret2
          rw [HT.out]
          exact out_no w W5 8 B5.out
end Go.Proofs.Ytmaaniokfpkbjaa
