/-
  SweepPut's walk: a prefix that is none, or too great, or in the way, is told so first. Conditions: what comes in lies in memory, and numbers have their bits.
-/
import Derived.Test.YtenolbgadlehpaaHcm
set_option linter.unusedSimpArgs false
set_option linter.unusedVariables false
namespace Go.Proofs.Ytenolbgadlehpaa
open Go.RowKit

theorem ins_at {xs : List Sw} (h : V xs) {a b now : Int} (ha0 : 0 ≤ a) (ha1 : a < 4294967296) (hc : putC xs a b = 0) : (ins xs ⟨a, b, cl now, 0⟩)[lo xs a]? = some ⟨a, b, cl now, 0⟩ ∧ ∀ j y, (ins xs ⟨a, b, cl now, 0⟩)[j]? = some y → j ≠ lo xs a → eqb y.a y.b a b = false := by
  have hl := lo_le a xs
  obtain ⟨hv, -, e⟩ := put_ok (now := now) h ha0 ha1 hc
  rw [e] at hv
  have h1 : (ins xs ⟨a, b, cl now, 0⟩)[lo xs a]? = some ⟨a, b, cl now, 0⟩ := by
    unfold ins
    rw [List.getElem?_append_left (by simp; omega), List.getElem?_append_right (by simp; omega)]
    simp [List.length_take, Nat.min_eq_left hl]
  refine ⟨h1, fun j y hy hne => ?_⟩
  obtain ⟨hj, hjy⟩ := List.getElem?_eq_some_iff.1 hy
  obtain ⟨hk, hkz⟩ := List.getElem?_eq_some_iff.1 h1
  have hya : y.a ≠ a := by
    rcases Nat.lt_or_ge j (lo xs a) with hlt | hge
    · have := ap_lt (List.pairwise_iff_getElem.1 hv.r.rise j (lo xs a) hj hk hlt)
      rw [hjy, hkz] at this
      dsimp only at this
      omega
    · have := ap_lt (List.pairwise_iff_getElem.1 hv.r.rise (lo xs a) j hk hj (by omega))
      rw [hjy, hkz] at this
      dsimp only at this
      omega
  unfold eqb
  exact decide_eq_false fun hc => hya hc.1

set_option maxRecDepth 100000 in
set_option maxHeartbeats 16000000 in
theorem sweepPut_walk (x : Hc) (B : Option Addr) (ys : List Ac) (cy : Nat) (a b now : Int) (w : World) (hx : x.Ok) (hB : Rw eC w B ys) (hcy : ys.length ≤ cy) (hok : ∀ y ∈ ys, y.Ok) (ha0 : 0 ≤ a) (ha1 : a < 4294967296) :
    Calls Try.prog 6 #[hv x, .slice B ys.length cy, .agg #[.int .u32 a, .int .i64 b], .int .i64 now] w fun e w' => e = .returned (.bool true) ∧ Below w.heap.size w w' := by
  have B0 := Lib.hid (show Below w.heap.size w ((w.alloc (Hcx x)).alloc (Bkx a b)) from ((Below.refl _ w).alloc (Nat.le_refl _) _).alloc (by simp) _)
  have M0 := Lib.hid (show Hm ((w.alloc (Hcx x)).alloc (Bkx a b)) w.heap.size x from (show Hm (w.alloc (Hcx x)) w.heap.size x from hc_box w x).below ((Below.refl _ _).alloc (Nat.le_refl _) _))
  have P0 := Lib.hid (show Bm ((w.alloc (Hcx x)).alloc (Bkx a b)) (w.heap.size + 1) a b by have := bm_box (w.alloc (Hcx x)) a b; simpa using this)
  have RB0 := Lib.hid (hB.below B0.out)
  have HCH := Lib.hid fun W => choice_any x W hx
  have HSO := Lib.hid fun W (hR : Rw eC W B ys) => some_any (ch x) B ys cy W hR hok hcy
  obtain ⟨v1, v2, v3⟩ := smO_ok (ch x).d (ys.take 60) (fun y hy => hok y (List.mem_of_mem_take hy))
  clear hB hok
  generalize ys.length = Ly at *
  generalize smO (ch x).d (ys.take 60) = s at *
  obtain ⟨ss, nw⟩ := s
  dsimp only at v1 v2 v3
  have HV := Lib.hid v1
  have hss := v1.r.few
  clear v1 v3 v2
  unfold hv Hcx Bkx at *
  go_enter Try.func6, Try.ntmps6
  go_wp2_with fail
  generalize (w.alloc (.cells #[.int .u8 x.a, .int .u8 x.b, .int .u8 x.c, .int .u8 x.d, .int .u8 x.e, .int .u8 x.f, .int .u8 x.g, .int .u8 x.h, .int .u8 x.i] 23)).alloc (.cells #[.int .u32 a, .int .i64 b] 36) = W0 at *
  refine (awake_any W0).mono ?_
  rintro e W1 ⟨rfl, hb⟩
  have B1 := Lib.hid (B0.out.trans (hb.mono B0.out.size))
  have M1 := Lib.hid (M0.out.below hb)
  have P1 := Lib.hid (P0.out.below hb)
  have RB1 := Lib.hid (RB0.out.below hb)
  clear hb M0 P0 RB0
  go_wp2_with (refine at_load23 (.tmp 4) rfl rfl _ x rfl M1.out ?_)
  refine (HCH.out W1).mono ?_
  rintro e W2 ⟨rfl, hb⟩
  have B2 := Lib.hid (B1.out.trans (hb.mono B1.out.size))
  have P2 := Lib.hid (P1.out.below hb)
  have RB2 := Lib.hid (RB1.out.below hb)
  clear hb P1 RB1 M1
  go_wp2_with fail
  refine (HSO.out W2 RB2.out).mono ?_
  rintro e W3 ⟨As, cs, rfl, hcs, hRs, hb⟩
  dsimp only at hcs hRs
  have B3 := Lib.hid (B2.out.trans (hb.mono B2.out.size))
  have P3 := Lib.hid (P2.out.below hb)
  have RS3 := Lib.hid hRs
  have HCS := Lib.hid hcs
  clear hb P2 RB2 hRs hcs
  dsimp only
  have HPU := Lib.hid fun W hR => put_any a b now As ss cs W hR HV.out.u HCS.out (by omega) ha0 ha1
  obtain ⟨C, hC⟩ : ∃ C, putC ss a b = C := ⟨_, rfl⟩
  have HC := Lib.hid hC
  obtain ⟨q0, q1⟩ := P3.out
  rw [hC] at HPU
  clear hC
  obtain ⟨L, hL⟩ : ∃ L, ss.length = L := ⟨_, rfl⟩
  have HL := Lib.hid hL
  rw [hL] at hss HPU ⊢
  clear hL
  go_wp2_with fail
  refine (HPU.out W3 RS3.out).mono ?_
  rintro e W4 ⟨Al, cL, rfl, hcl, -, hRl, hb⟩
  have B4 := Lib.hid (B3.out.trans (hb.mono B3.out.size))
  have P4 := Lib.hid (P3.out.below hb)
  have RS4 := Lib.hid (RS3.out.below hb)
  have RL4 := Lib.hid hRl
  clear hb hRl P3 RS3 q0 q1 HPU hcl
  obtain ⟨lst, hlst⟩ : ∃ lst, putR ss a b now = lst := ⟨_, rfl⟩
  have HLS := Lib.hid hlst
  rw [hlst] at RL4 ⊢
  clear hlst
  obtain ⟨M, hM⟩ : ∃ M, lst.length = M := ⟨_, rfl⟩
  have HM := Lib.hid hM
  rw [hM]
  clear hM
  go_wp2_with fail
  go_loopw [14, 38] (fun v i wr => ∃ k : Nat, i = .int .i64 k ∧ k ≤ L ∧ v = .bool (anyB (ss.take k) a b) ∧ Hid (Below W4.heap.size W4 wr)) (fun _ i _ => L - (intOf i).toNat)
  case atStart => exact ⟨0, rfl, by omega, rfl, Lib.hid (Below.refl _ _)⟩
  case round =>
    obtain ⟨k, rfl, hk, rfl, HW⟩ := hrel
    by_cases hkL : k < L
    · obtain ⟨y, hy⟩ := at_of_lt (xs := ss) (k := k) (by rw [HL.out]; exact hkL)
      obtain ⟨z, rfl⟩ := rw_some RS4.out (by rw [HL.out]; omega)
      have hat := (RS4.out.below HW.out).at hy
      obtain ⟨u0, u1⟩ := HV.out.u.get hy
      have HT := Lib.hid (any_take (a := a) (b := b) hy)
      have PW := P4.out.below HW.out
      have hlt1 := PW.lt
      obtain ⟨q0, q1⟩ := PW
      have B1' := Lib.hid (show Below W4.heap.size W4 (wr.alloc (Swx y)) from HW.out.alloc HW.out.size _)
      clear hy
      cases hov : anyB (ss.take k) a b
      · have HO := Lib.hid fun W => overlap_any y.a y.b a b W u0 u1 ha0 ha1
        have HOV := Lib.hid hov
        rw [hov] at HT
        clear hov
        unfold Swx at *
        go_wp2_with (refine at_load39 (.tmp 40) rfl rfl (z.add (k * 4)) y rfl hat ?_)
        refine (HO.out _).mono ?_
        rintro e w1 ⟨rfl, hb⟩
        have B2' := Lib.hid (B1'.out.trans (hb.mono B1'.out.size))
        clear hb
        go_wp2_with fail
        go_roundw
        case rel => exact ⟨k + 1, by go_num, by omega, by rw [HT.out]; rfl, B2'⟩
        case measure => simp [intOf]; omega
      · have HOV := Lib.hid hov
        rw [hov] at HT
        clear hov
        unfold Swx at *
        go_wp2_with (refine at_load39 (.tmp 40) rfl rfl (z.add (k * 4)) y rfl hat ?_)
        go_roundw
        case rel => exact ⟨k + 1, by go_num, by omega, by rw [HT.out]; rfl, B1'⟩
        case measure => simp [intOf]; omega
    · obtain rfl : L = k := by omega
      have hfull : ss.take L = ss := List.take_of_length_le (by rw [HL.out]; exact Nat.le_refl _)
      rw [hfull]
      have PW := Lib.hid (P4.out.below HW.out)
      obtain ⟨q0, q1⟩ := PW.out
      have RLW := Lib.hid (RL4.out.below HW.out)
      have BW := Lib.hid (B4.out.trans (HW.out.mono B4.out.size))
      obtain ⟨wo, rfl⟩ : ∃ wo, wo = wr := ⟨_, rfl⟩
      clear HW B4 P4 RS4 RL4 hfull
      cases hk : okB a b
      · have HR := Lib.hid fun W => right_no a b W ha0 ha1 hk
        have e12 : putC ss a b = 12 := by unfold putC; rw [if_pos hk]
        have hz : lst = [] := by rw [← HLS.out]; unfold putR; rw [e12]; rfl
        obtain rfl : C = 12 := by rw [← HC.out]; exact e12
        obtain rfl : M = 0 := by rw [← HM.out, hz]; rfl
        clear hk e12 hz
        go_wp2_with fail
        refine (HR.out _).mono ?_
        rintro e w5 ⟨rfl, hb⟩
        have B5 := Lib.hid (BW.out.trans (hb.mono BW.out.size))
        have P5 := Lib.hid (PW.out.below hb)
        clear hb q0 q1
        obtain ⟨q0, q1⟩ := P5.out
        go_wp2_with fail
        go_ret
        exact ⟨rfl, B5.out⟩
      · have HR := Lib.hid fun W => right_yes a b W ha0 ha1 hk
        obtain ⟨b0, b1, -⟩ := ok_out hk
        have hkf : ¬ okB a b = false := by rw [hk]; simp
        by_cases h24 : b < 24
        · have e3 : putC ss a b = 3 := by unfold putC; rw [if_neg hkf, if_pos (by have := p2_24 b0 b1; omega)]
          have hz : lst = [] := by rw [← HLS.out]; unfold putR; rw [e3]; rfl
          obtain rfl : C = 3 := by rw [← HC.out]; exact e3
          obtain rfl : M = 0 := by rw [← HM.out, hz]; rfl
          clear hk e3 hz hkf
          go_wp2_with fail
          refine (HR.out _).mono ?_
          rintro e w5 ⟨rfl, hb⟩
          have B5 := Lib.hid (BW.out.trans (hb.mono BW.out.size))
          have P5 := Lib.hid (PW.out.below hb)
          clear hb q0 q1
          obtain ⟨q0, q1⟩ := P5.out
          go_wp2_with fail
          go_ret
          exact ⟨rfl, B5.out⟩
        · have h256 : ¬ 256 < p2 b := by have := p2_24 b0 b1; omega
          have h24' : decide (b < 24) = false := decide_eq_false h24
          cases hov : anyB ss a b
          · have hovf : ¬ anyB ss a b = true := by rw [hov]; simp
            by_cases h16 : 16 ≤ L
            · have e4 : putC ss a b = 4 := by unfold putC; rw [if_neg hkf, if_neg h256, if_neg hovf, if_pos (by rw [HL.out]; exact h16)]
              have hz : lst = [] := by rw [← HLS.out]; unfold putR; rw [e4]; rfl
              obtain rfl : C = 4 := by rw [← HC.out]; exact e4
              obtain rfl : M = 0 := by rw [← HM.out, hz]; rfl
              have h16' : (16 : Int) ≤ L := by omega
              clear hk e4 hz hkf hovf hov
              go_wp2_with fail
              refine (HR.out _).mono ?_
              rintro e w5 ⟨rfl, hb⟩
              have B5 := Lib.hid (BW.out.trans (hb.mono BW.out.size))
              have P5 := Lib.hid (PW.out.below hb)
              clear hb q0 q1
              obtain ⟨q0, q1⟩ := P5.out
              go_wp2_with fail
              go_ret
              exact ⟨rfl, B5.out⟩
            · have e0 : putC ss a b = 0 := by unfold putC; rw [if_neg hkf, if_neg h256, if_neg hovf, if_neg (by rw [HL.out]; exact h16)]
              obtain rfl : C = 0 := by rw [← HC.out]; exact e0
              obtain ⟨i1, i2⟩ := ins_at (now := now) HV.out ha0 ha1 e0
              obtain ⟨p1, p2', p3⟩ := put_ok (now := now) HV.out ha0 ha1 e0
              have hlo := lo_le a ss
              rw [HL.out] at hlo p2'
              rw [← p3, HLS.out] at i1 i2
              rw [HLS.out] at p1 p2'
              have HI1 := Lib.hid i1
              have HI2 := Lib.hid i2
              have HVL := Lib.hid p1
              obtain rfl : M = L + 1 := by rw [← HM.out]; exact p2'
              have h16' : decide ((16 : Int) ≤ L) = false := decide_eq_false (by omega)
              have HLG := Lib.hid fun W hR => lright_any Al lst cL W hR HVL.out.u
              rw [(lg_iff lst).2 HVL.out.r, HM.out] at HLG
              obtain ⟨q, hq⟩ : ∃ q, lo ss a = q := ⟨_, rfl⟩
              rw [hq] at hlo HI1 HI2
              have hcl2 := cl_eq' now
              obtain ⟨D, hD⟩ : ∃ D, cl now = D := ⟨_, rfl⟩
              rw [hD] at hcl2 HI1
              clear hk e0 hkf hovf hov i1 i2 p1 p2' p3 hq hD
              go_wp2_with fail
              refine (HR.out _).mono ?_
              rintro e w5 ⟨rfl, hb⟩
              have B5 := Lib.hid (BW.out.trans (hb.mono BW.out.size))
              have P5 := Lib.hid (PW.out.below hb)
              have RL5 := Lib.hid (RLW.out.below hb)
              clear hb q0 q1
              obtain ⟨q0, q1⟩ := P5.out
              go_wp2_with fail
              go_loopw [17, 70] (fun v i wr => ∃ k : Nat, i = .int .i64 k ∧ k ≤ L + 1 ∧ v = .int .i64 (if q < k then 1 else 0) ∧ Hid (Below w5.heap.size w5 wr)) (fun _ i _ => L + 1 - (intOf i).toNat)
              case atStart => exact ⟨0, rfl, by omega, by rw [if_neg (by omega)], Lib.hid (Below.refl _ _)⟩
              case round =>
                obtain ⟨k, rfl, hk, rfl, HW⟩ := hrel
                by_cases hkL : k < L + 1
                · obtain ⟨y, hy⟩ := at_of_lt (xs := lst) (k := k) (by rw [HM.out]; exact hkL)
                  obtain ⟨z, rfl⟩ := rw_some RL5.out (by rw [HM.out]; omega)
                  have hat := (RL5.out.below HW.out).at hy
                  have PW6 := P5.out.below HW.out
                  have hlt1 := PW6.lt
                  obtain ⟨g0, g1⟩ := PW6
                  have B1' := Lib.hid (show Below w5.heap.size w5 (wr.alloc (Swx y)) from HW.out.alloc HW.out.size _)
                  by_cases hkq : k = q
                  · subst hkq
                    have hyz : y = ⟨a, b, D, 0⟩ := by
                      have := HI1.out
                      rw [hy] at this
                      exact Option.some.inj this
                    subst hyz
                    rw [if_neg (by omega)]
                    have hself : eqb a b a b = true := by simp [eqb]
                    clear hy
                    unfold Swx at *
                    go_wp2_with (first | (refine at_load39 (.tmp 72) rfl rfl (z.add (k * 4)) ⟨a, b, D, 0⟩ rfl hat ?_) | (refine at_eql36 (.tmp 75) (.tmp 76) a b a b rfl rfl rfl rfl ?_; rw [hself]))
                    go_roundw
                    case rel => exact ⟨k + 1, by go_num, by omega, by rw [if_pos (by omega)], B1'⟩
                    case measure => simp [intOf]; omega
                  · have hne := HI2.out k y hy hkq
                    have hif : (if q < k + 1 then (1 : Int) else 0) = if q < k then 1 else 0 := by
                      by_cases h : q < k
                      · rw [if_pos h, if_pos (by omega)]
                      · rw [if_neg h, if_neg (by omega)]
                    have HIF := Lib.hid hif
                    clear hif
                    generalize (if q < k then (1 : Int) else 0) = ct at *
                    clear hy
                    unfold Swx at *
                    go_wp2_with (first | (refine at_load39 (.tmp 72) rfl rfl (z.add (k * 4)) y rfl hat ?_) | (refine at_eql36 (.tmp 75) (.tmp 76) y.a y.b a b rfl rfl rfl rfl ?_; rw [hne]))
                    go_roundw
                    case rel => exact ⟨k + 1, by go_num, by omega, by rw [HIF.out], B1'⟩
                    case measure => simp [intOf]; omega
                · obtain rfl : k = L + 1 := by omega
                  rw [if_pos (by omega)]
                  have RL6 := Lib.hid (RL5.out.below HW.out)
                  have B6 := Lib.hid (B5.out.trans (HW.out.mono B5.out.size))
                  have hw1 : IntKind.i64.wrap ((L : Int) + 1) = (L : Int) + 1 := by rw [IntKind.wrap_i64]; omega
                  go_wp2_with fail
                  refine (HLG.out _ RL6.out).mono ?_
                  rintro e w7 ⟨rfl, hb⟩
                  have B7 := Lib.hid (B6.out.trans (hb.mono B6.out.size))
                  clear hb
                  go_wp2_with fail
                  go_ret
                  exact ⟨rfl, B7.out⟩
          · have e5 : putC ss a b = 5 := by unfold putC; rw [if_neg hkf, if_neg h256, if_pos hov]
            have hz : lst = [] := by rw [← HLS.out]; unfold putR; rw [e5]; rfl
            obtain rfl : C = 5 := by rw [← HC.out]; exact e5
            obtain rfl : M = 0 := by rw [← HM.out, hz]; rfl
            clear hk e5 hz hkf hov
            go_wp2_with fail
            refine (HR.out _).mono ?_
            rintro e w5 ⟨rfl, hb⟩
            have B5 := Lib.hid (BW.out.trans (hb.mono BW.out.size))
            have P5 := Lib.hid (PW.out.below hb)
            clear hb q0 q1
            obtain ⟨q0, q1⟩ := P5.out
            go_wp2_with fail
            go_ret
            exact ⟨rfl, B5.out⟩
end Go.Proofs.Ytenolbgadlehpaa
