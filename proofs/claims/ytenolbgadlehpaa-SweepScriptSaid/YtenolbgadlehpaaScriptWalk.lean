/-
  SweepScript's walk: which prefixes are swept, and whom they ask, deed by deed. Conditions: what comes in lies in memory, and numbers have their bits.
-/
import Derived.BigGuard
import Derived.Test.YtenolbgadlehpaaTxt
import Derived.Test.YtenolbgadlehpaaPlanWalk
set_option linter.unusedSimpArgs false
set_option linter.unusedVariables false
namespace Go.Proofs.Ytenolbgadlehpaa
open Go.RowKit

set_option maxRecDepth 100000 in
set_option maxHeartbeats 32000000 in
theorem sweepScript_walk (x : Hc) (B : Option Addr) (ys : List Ac) (cy : Nat) (w : World) (hx : x.Ok) (hB : Rw eC w B ys) (hcy : ys.length ≤ cy) (hok : ∀ y ∈ ys, y.Ok) :
    Calls Try.prog 3 #[hv x, .slice B ys.length cy] w fun e w' => e = .returned (.bool true) ∧ Below w.heap.size w w' := by
  have hln := hB.1
  have B0 := Lib.hid (show Below w.heap.size w (w.alloc (Hcx x)) from (Below.refl _ w).alloc (Nat.le_refl _) _)
  have M0 := Lib.hid (show Hm (w.alloc (Hcx x)) w.heap.size x from hc_box w x)
  obtain ⟨zs, hzs⟩ : ∃ zs, ys.take 100 = zs := ⟨_, rfl⟩
  have RB0 := Lib.hid (show Rw eC (w.alloc (Hcx x)) B zs from hzs ▸ (hB.below B0.out).take 100)
  have HOK := Lib.hid (show ∀ y ∈ zs, y.Ok from fun y hy => hok y (List.mem_of_mem_take (hzs ▸ hy)))
  have hzn : zs.length = min 100 ys.length := by rw [← hzs, List.length_take]
  have HCH := Lib.hid fun W => choice_any x W hx
  obtain ⟨he0, he1⟩ := ch_e x
  obtain ⟨C, hC⟩ : ∃ C, ch x = C := ⟨_, rfl⟩
  rw [hC] at HCH he0 he1
  clear hB hok hC hzs
  obtain ⟨Ly, hLy⟩ : ∃ n, ys.length = n := ⟨_, rfl⟩
  rw [hLy] at hln hcy hzn ⊢
  clear hLy
  obtain ⟨N, hN⟩ : ∃ n, zs.length = n := ⟨_, rfl⟩
  have HN := Lib.hid hN
  rw [hN] at hzn
  clear hN
  have hmin : min (Ly : Int) 100 = (N : Int) := by omega
  have hNc : N ≤ cy := by omega
  have hNc' : (N : Int) ≤ cy := by omega
  have hN100 : N ≤ 100 := by omega
  have HSL := run_sl24 B Ly cy N hNc
  unfold hv Hcx cfv at *
  clear hzn
  go_enter Try.func3, Try.ntmps3
  go_wp2_with fail
  generalize w.alloc (.cells #[.int .u8 x.a, .int .u8 x.b, .int .u8 x.c, .int .u8 x.d, .int .u8 x.e, .int .u8 x.f, .int .u8 x.g, .int .u8 x.h, .int .u8 x.i] 23) = W0 at *
  refine (awake_any W0).mono ?_
  rintro e W1 ⟨rfl, hb⟩
  have B1 := Lib.hid (B0.out.trans (hb.mono B0.out.size))
  have M1 := Lib.hid (M0.out.below hb)
  have RB1 := Lib.hid (RB0.out.below hb)
  clear hb M0 RB0
  go_wp2_with (refine at_load23 (.tmp 2) rfl rfl _ x rfl M1.out ?_)
  refine (HCH.out W1).mono ?_
  rintro e W2 ⟨rfl, hb⟩
  have B2a := Lib.hid (B1.out.trans (hb.mono B1.out.size))
  have RB2a := Lib.hid (RB1.out.below hb)
  have C2 := Lib.hid (cm_box W2 C)
  have B2 := Lib.hid (B2a.out.alloc B2a.out.size (Cfx C))
  have RB2 := Lib.hid (RB2a.out.below ((Below.refl _ W2).alloc (Nat.le_refl _) (Cfx C)))
  clear hb RB1 M1 B2a RB2a
  go_upto_region 4 with fail
  change Code.wp _ _ _ _ (W2.alloc (Cfx C))
  generalize W2.alloc (Cfx C) = W3 at *
  obtain ⟨bc, hbc⟩ : ∃ bc, W2.heap.size = bc := ⟨_, rfl⟩
  rw [hbc] at C2 ⊢
  clear hbc
  have T0 := Lib.hid (show Tx w C bc B zs [] 0 none 0 W3 from ⟨V.nil, rfl, Nat.le_refl _, Rw.nil _ _, RB2.out, C2.out, B2.out⟩)
  clear B2 RB2 C2
  go_wp2_with fail
  clear HSL hmin
  go_loopw [6, 7, 35] (fun v t i wr => ∃ (k : Nat) (ss : List Sw) (nw : Int) (L : Nat) (A1 : Option Addr) (c1 : Nat), i = .int .i64 k ∧ k ≤ N ∧ v = .slice A1 L c1 ∧ t = .int .i64 nw ∧ 0 ≤ nw ∧ nw ≤ k ∧ Hid (Tx w C bc B zs ss L A1 c1 wr)) (fun _ _ i _ => N - (intOf i).toNat)
  case atStart => exact ⟨0, [], 0, 0, none, 0, rfl, by omega, rfl, rfl, by omega, by omega, T0⟩
  case round =>
    obtain ⟨k, ss, nw, L, A1, c1, rfl, hk, rfl, rfl, hnw0, hnw1, HX⟩ := hrel
    by_cases hkN : k < N
    · obtain ⟨a, ha⟩ : ∃ a, zs[k]? = some a := ⟨_, List.getElem?_eq_getElem (by rw [HN.out]; exact hkN)⟩
      have hak := HOK.out a (List.mem_of_getElem? ha)
      have hra := HX.out.acts
      obtain ⟨y, rfl⟩ := rw_some hra (by rw [HN.out]; omega)
      have hat := hra.at ha
      obtain ⟨s0, s1, s2⟩ := ac_box wr a
      have X1 := Lib.hid (HX.out.below ((Below.refl _ wr).alloc (Nat.le_refl _) (Acx a)))
      have hL16 := HX.out.few
      have HBL := Lib.hid fun W => ablock_any a hak W
      obtain ⟨p0, p1⟩ := ba_in a hak
      obtain ⟨q0', q1'⟩ := bn_in a hak
      have hbok := bab_ok a hak
      obtain ⟨o0, o1⟩ := hak.o
      have O1 := Lib.hid (show Am (wr.alloc (Acx a)) wr.heap.size a.o from s0)
      generalize ba a = p at *
      generalize bn a = q at *
      clear ha hra hak HX
      unfold Acx acv at *
      go_wp2_with (refine at_load32 (.tmp 37) rfl rfl (y.add (k * 3)) a rfl hat ?_)
      refine (HBL.out _).mono ?_
      rintro e w1 ⟨rfl, hb⟩
      have X2 := Lib.hid (X1.out.below hb)
      have O2 := Lib.hid (O1.out.below hb)
      clear hb X1 O1 s0 s1 s2 hat HBL
      have X3 := Lib.hid (X2.out.below ((Below.refl _ w1).alloc (Nat.le_refl _) (Bkx p q)))
      have O3 := Lib.hid (O2.out.below ((Below.refl _ w1).alloc (Nat.le_refl _) (Bkx p q)))
      have P3 := Lib.hid (bm_box w1 p q)
      clear X2 O2
      unfold Bkx at *
      go_wp2_with fail
      generalize w1.alloc (.cells #[.int .u32 p, .int .i64 q] 36) = W3 at *
      generalize w1.heap.size = bp at *
      generalize wr.heap.size = bo at *
      generalize a.o = op at *
      go_loopw [11, 12, 43] (fun t v i wr => ∃ (j : Nat) (u : Int), i = .int .i64 j ∧ j ≤ L ∧ t = .int .i64 u ∧ -1 ≤ u ∧ u ≤ 100 ∧ v = .bool (anyB (ss.take j) p q) ∧ Hid (decide (0 ≤ u) = eqA (ss.take j) p q ∧ Below W3.heap.size W3 wr)) (fun _ _ i _ => L - (intOf i).toNat)
      case atStart => exact ⟨0, -1, rfl, by omega, rfl, by omega, by omega, rfl, Lib.hid ⟨rfl, Below.refl _ _⟩⟩
      case round =>
        obtain ⟨j, u, rfl, hj, rfl, hu0, hu1, rfl, HE⟩ := hrel
        by_cases hjL : j < L
        · obtain ⟨y2, hy⟩ := at_of_lt (xs := ss) (k := j) (by rw [X3.out.len]; exact hjL)
          have hrs := X3.out.row
          obtain ⟨z, rfl⟩ := rw_some hrs (by rw [X3.out.len]; omega)
          have hat := (hrs.below HE.out.2).at hy
          obtain ⟨u0, u1⟩ := X3.out.v.u.get hy
          have HT := Lib.hid (any_take (a := p) (b := q) hy)
          have HQ := Lib.hid (eqA_take (a := p) (b := q) hy)
          have PW := P3.out.below HE.out.2
          have hlt1 := PW.lt
          obtain ⟨q0, q1⟩ := PW
          have B1' := Lib.hid (show Below W3.heap.size W3 (wr.alloc (Swx y2)) from HE.out.2.alloc HE.out.2.size _)
          clear hy hrs
          have HO := Lib.hid fun W => overlap_any y2.a y2.b p q W u0 u1 p0 p1
          cases hov : anyB (ss.take j) p q <;> cases heq : eqb y2.a y2.b p q
          · obtain ⟨HOV, HEQ⟩ : Hid (anyB (ss.take j) p q = false) ∧ Hid (eqb y2.a y2.b p q = false) := ⟨Lib.hid hov, Lib.hid heq⟩
            have heq' := heq
            rw [hov] at HT
            rw [heq] at HQ
            clear hov heq
            unfold Swx at *
            go_wp2_with (first | (refine at_load39 (.tmp 46) rfl rfl (z.add (j * 4)) y2 rfl hat ?_) | (refine at_eql36 (.tmp 49) (.tmp 50) y2.a y2.b p q rfl rfl rfl rfl ?_; rw [heq']))
            refine (HO.out _).mono ?_
            rintro e w5 ⟨rfl, hb⟩
            have B2' := Lib.hid (B1'.out.trans (hb.mono B1'.out.size))
            clear hb
            go_wp2_with fail
            go_roundw
            case rel => exact ⟨j + 1, u, by go_num, by omega, rfl, by omega, by omega, by rw [HT.out, Bool.false_or], Lib.hid ⟨by rw [HQ.out, Bool.or_false]; exact HE.out.1, B2'.out⟩⟩
            case measure => simp [intOf]; omega
          · obtain ⟨HOV, HEQ⟩ : Hid (anyB (ss.take j) p q = false) ∧ Hid (eqb y2.a y2.b p q = true) := ⟨Lib.hid hov, Lib.hid heq⟩
            have heq' := heq
            rw [hov] at HT
            rw [heq] at HQ
            clear hov heq
            unfold Swx at *
            go_wp2_with (first | (refine at_load39 (.tmp 46) rfl rfl (z.add (j * 4)) y2 rfl hat ?_) | (refine at_eql36 (.tmp 49) (.tmp 50) y2.a y2.b p q rfl rfl rfl rfl ?_; rw [heq']))
            refine (HO.out _).mono ?_
            rintro e w5 ⟨rfl, hb⟩
            have B2' := Lib.hid (B1'.out.trans (hb.mono B1'.out.size))
            clear hb
            go_wp2_with fail
            go_roundw
            case rel => exact ⟨j + 1, (j : Int), by go_num, by omega, rfl, by omega, by omega, by rw [HT.out, Bool.false_or], Lib.hid ⟨by rw [HQ.out, Bool.or_true]; exact decide_eq_true (by omega), B2'.out⟩⟩
            case measure => simp [intOf]; omega
          · obtain ⟨HOV, HEQ⟩ : Hid (anyB (ss.take j) p q = true) ∧ Hid (eqb y2.a y2.b p q = false) := ⟨Lib.hid hov, Lib.hid heq⟩
            have heq' := heq
            rw [hov] at HT
            rw [heq] at HQ
            clear hov heq
            unfold Swx at *
            go_wp2_with (first | (refine at_load39 (.tmp 46) rfl rfl (z.add (j * 4)) y2 rfl hat ?_) | (refine at_eql36 (.tmp 49) (.tmp 50) y2.a y2.b p q rfl rfl rfl rfl ?_; rw [heq']))
            go_roundw
            case rel => exact ⟨j + 1, u, by go_num, by omega, rfl, by omega, by omega, by rw [HT.out, Bool.true_or], Lib.hid ⟨by rw [HQ.out, Bool.or_false]; exact HE.out.1, B1'.out⟩⟩
            case measure => simp [intOf]; omega
          · obtain ⟨HOV, HEQ⟩ : Hid (anyB (ss.take j) p q = true) ∧ Hid (eqb y2.a y2.b p q = true) := ⟨Lib.hid hov, Lib.hid heq⟩
            have heq' := heq
            rw [hov] at HT
            rw [heq] at HQ
            clear hov heq
            unfold Swx at *
            go_wp2_with (first | (refine at_load39 (.tmp 46) rfl rfl (z.add (j * 4)) y2 rfl hat ?_) | (refine at_eql36 (.tmp 49) (.tmp 50) y2.a y2.b p q rfl rfl rfl rfl ?_; rw [heq']))
            go_roundw
            case rel => exact ⟨j + 1, (j : Int), by go_num, by omega, rfl, by omega, by omega, by rw [HT.out, Bool.true_or], Lib.hid ⟨by rw [HQ.out, Bool.or_true]; exact decide_eq_true (by omega), B1'.out⟩⟩
            case measure => simp [intOf]; omega
        · obtain rfl : L = j := by omega
          have hfull : ss.take L = ss := List.take_of_length_le (by rw [X3.out.len]; exact Nat.le_refl _)
          obtain ⟨he1', he2⟩ := HE.out
          rw [hfull] at he1' ⊢
          rw [eqA_at X3.out.v.r] at he1'
          have HAT := Lib.hid he1'
          have X4 := Lib.hid (X3.out.below he2)
          have O4 := Lib.hid (O3.out.below he2)
          have P4 := Lib.hid (P3.out.below he2)
          clear HE he1' he2 X3 O3 P3 hfull
          obtain ⟨wo, rfl⟩ : ∃ wo, wo = wr := ⟨_, rfl⟩
          have t0 : wo.cell? ⟨bo, 0, none⟩ = some (.int .u8 op) := O4.out
          obtain ⟨q0, q1⟩ := P4.out
          by_cases h0 : op % 4 = 0
          · have e0 : (op % 4 == 0) = true := by simpa using h0
            have HPL := Lib.hid fun W hR => plan_any C (nw + 1) C.e A1 ss c1 W hR (by rw [X4.out.len]; exact X4.out.cap) X4.out.v.r.few X4.out.v.sv (by omega) (by omega)
            have HLP := Lib.hid fun W hR => lplan_any C (nw + 1) C.e A1 ss c1 W hR (by rw [X4.out.len]; exact X4.out.cap) X4.out.v.r.few X4.out.v.sv X4.out.v.due (by omega) (by omega)
            rw [X4.out.len] at HPL HLP
            have hfw := plan_few ss C.d C.e (ord ss (nw + 1))
            rw [show planL ss C.d C.e (ord ss (nw + 1)) = planO ss C.d (nw + 1) C.e from rfl] at hfw
            obtain ⟨pv, psb⟩ := planO_ok X4.out.v C.d (nw + 1) C.e
            generalize planO ss C.d (nw + 1) C.e = S at *
            obtain ⟨l1, l2⟩ := S
            dsimp only at hfw pv psb
            have HPV := Lib.hid pv
            obtain ⟨L1, hL1⟩ : ∃ n, l1.length = n := ⟨_, rfl⟩
            have HL1 := Lib.hid hL1
            clear pv psb
            have C4 := Lib.hid X4.out.cm
            have c4 := C4.out.c4
            unfold cfv at *
            go_wp2_with (refine at_load27 (.tmp 5) rfl rfl _ C rfl C4.out.at ?_)
            refine (HPL.out _ X4.out.row).mono ?_
            rintro e w5 ⟨A2, c2, A3, c3, rfl, hc2, hR2, hR3, hb⟩
            dsimp only at hc2 hR2 hR3
            have X5 := Lib.hid (X4.out.below hb)
            have RL5 := Lib.hid hR2
            have RQ5 := Lib.hid hR3
            have HC2 := Lib.hid hc2
            clear hb hR2 hR3 hc2 X4 C4 c4 t0 q0 q1
            have C5 := Lib.hid X5.out.cm
            have c5 := C5.out.c4
            dsimp only
            go_wp2_with (refine at_load27 (.tmp 5) rfl rfl _ C rfl C5.out.at ?_)
            refine (HLP.out _ X5.out.row).mono ?_
            rintro e w6 ⟨A4, c4, A5, c5', rfl, hc4, hR4, hR5, hb⟩
            dsimp only at hc4 hR4 hR5
            have X6 := Lib.hid (X5.out.turn HPV.out HL1.out (by rw [← HL1.out]; exact HC2.out) (RL5.out.below hb) hb)
            have RQ6 := Lib.hid (RQ5.out.below hb)
            have HSA := Lib.hid (same_any A2 A4 l1 l1 c2 c4 w6 (RL5.out.below hb) hR4)
            rw [decide_eq_true rfl, HL1.out] at HSA
            have RW6 := Lib.hid hR5
            clear hb hR4 hR5 hc4 X5 C5 c5 RL5 RQ5
            dsimp only
            rw [hL1]
            obtain ⟨n2, hn2⟩ : ∃ n, l2.length = n := ⟨_, rfl⟩
            have HN2 := Lib.hid hn2
            rw [hn2] at hfw ⊢
            clear hn2 hL1
            have hn2b : n2 ≤ 128 := by omega
            clear hfw
            go_wp2_with fail
            refine HSA.out.mono ?_
            rintro e w7 ⟨rfl, q7, rfl⟩
            have X7 := Lib.hid (X6.out.drew q7)
            have RQ7 := Lib.hid (RQ6.out.drewN q7)
            have RW7 := Lib.hid (RW6.out.drewN q7)
            clear X6 RQ6 RW6 HSA
            generalize w6.drewN q7 = W7 at *
            go_wp2_with fail
            go_loopw [140] (fun i wr => ∃ m n : Nat, i = .int .i64 m ∧ m ≤ n2 ∧ Hid (wr = W7.drewN n)) (fun i _ => n2 - (intOf i).toNat)
            case atStart => exact ⟨0, 0, rfl, by omega, Lib.hid rfl⟩
            case round =>
              obtain ⟨m, n, rfl, hm, HW⟩ := hrel
              by_cases hmn : m < n2
              · obtain ⟨z, hz⟩ : ∃ z, l2[m]? = some z := ⟨_, List.getElem?_eq_getElem (by rw [HN2.out]; exact hmn)⟩
                obtain ⟨y3, rfl⟩ := rw_some RQ7.out (by rw [HN2.out]; omega)
                obtain ⟨y5, rfl⟩ := rw_some RW7.out (by rw [HN2.out]; omega)
                have k2 : wr.cell? (y3.add m) = some (.int .u32 z) := by rw [HW.out]; exact ea_at (RQ7.out.drewN n) hz
                have k4 : wr.cell? (y5.add m) = some (.int .u32 z) := by rw [HW.out]; exact ea_at (RW7.out.drewN n) hz
                have hne : (z != z) = false := by simp
                clear hz
                go_wp2_with fail
                go_quiet (fail)
                go_wp2_with fail
                go_roundw
                case rel => exact ⟨m + 1, n + nq, by go_num, by omega, Lib.hid (by rw [HW.out, World.drewN_drewN])⟩
                case measure => simp [intOf]; omega
              · obtain rfl : n2 = m := by omega
                have X7w := Lib.hid (X7.out.drew n)
                rw [← HW.out] at X7w
                clear X7
                have HLG := Lib.hid fun W hR => X7w.out.lright W hR
                have HRR := Lib.hid fun W hR => X7w.out.right W hR
                go_wp2_with fail
                refine (HLG.out _ X7w.out.row).mono ?_
                rintro e w8 ⟨rfl, hb⟩
                have X8 := Lib.hid (X7w.out.below hb)
                clear hb X7w
                go_wp2_with fail
                refine (HRR.out _ X8.out.row).mono ?_
                rintro e w9 ⟨rfl, hb⟩
                have X9 := Lib.hid (X8.out.below hb)
                clear hb X8
                go_wp2_with fail
                go_roundw
                case rel => exact ⟨k + 1, l1, nw + 1, L1, A2, c2, by go_num, by omega, rfl, rfl, by omega, by omega, X9⟩
                case measure => simp [intOf]; omega
          · have e0 : (op % 4 == 0) = false := by simpa using h0
            by_cases h1 : op % 4 = 1
            · have e1 : (op % 4 == 1) = true := by simpa using h1
              have HTA := Lib.hid fun W hR => take_any p q A1 ss c1 W hR (by rw [X4.out.len]; exact X4.out.cap) (by rw [X4.out.len]; omega)
              rw [X4.out.len] at HTA
              cases hia : isAt ss p q
              · have ec : takeC ss p q = 7 := by unfold takeC; rw [if_neg (by rw [hia]; simp)]
                have er : takeR ss p q = [] := by unfold takeR; rw [if_neg (by rw [hia]; simp)]
                rw [ec, er] at HTA
                have hu : decide (0 ≤ u) = false := by rw [HAT.out, hia]
                clear ec er hia HAT
                go_wp2_with fail
                refine (HTA.out _ X4.out.row).mono ?_
                rintro e w5 ⟨A2, c2, rfl, hc2, -, hR2, hb⟩
                have X5 := Lib.hid (X4.out.below hb)
                clear hb hR2 hc2 X4 t0 q0 q1 HTA
                dsimp only [List.length_nil]
                have HLG := Lib.hid fun W hR => X5.out.lright W hR
                have HRR := Lib.hid fun W hR => X5.out.right W hR
                go_wp2_with fail
                refine (HLG.out _ X5.out.row).mono ?_
                rintro e w8 ⟨rfl, hb⟩
                have X8 := Lib.hid (X5.out.below hb)
                clear hb X5
                go_wp2_with fail
                refine (HRR.out _ X8.out.row).mono ?_
                rintro e w9 ⟨rfl, hb⟩
                have X9 := Lib.hid (X8.out.below hb)
                clear hb X8
                go_wp2_with fail
                go_roundw
                case rel => exact ⟨k + 1, ss, nw, L, A1, c1, by go_num, by omega, rfl, rfl, by omega, by omega, X9⟩
                case measure => simp [intOf]; omega
              · have ec : takeC ss p q = 0 := by unfold takeC; rw [if_pos hia]
                obtain ⟨tv, tl, tp⟩ := take_ok X4.out.v ec
                rw [ec] at HTA
                rw [X4.out.len] at tl tp
                have hu : decide (0 ≤ u) = true := by rw [HAT.out, hia]
                generalize takeR ss p q = ts at *
                obtain ⟨L1, hL1⟩ : ∃ n, ts.length = n := ⟨_, rfl⟩
                have HL1 := Lib.hid hL1
                rw [hL1] at tl
                have HTV := Lib.hid tv
                obtain rfl : L = L1 + 1 := by omega
                clear ec hia HAT tv tl hL1
                go_wp2_with fail
                refine (HTA.out _ X4.out.row).mono ?_
                rintro e w5 ⟨A2, c2, rfl, hc2, -, hR2, hb⟩
                rw [HL1.out] at hc2 ⊢
                have X5 := Lib.hid (X4.out.turn HTV.out HL1.out hc2 hR2 hb)
                clear hb hR2 hc2 X4 t0 q0 q1 HTA
                have HLG := Lib.hid fun W hR => X5.out.lright W hR
                have HRR := Lib.hid fun W hR => X5.out.right W hR
                go_wp2_with fail
                refine (HLG.out _ X5.out.row).mono ?_
                rintro e w8 ⟨rfl, hb⟩
                have X8 := Lib.hid (X5.out.below hb)
                clear hb X5
                go_wp2_with fail
                refine (HRR.out _ X8.out.row).mono ?_
                rintro e w9 ⟨rfl, hb⟩
                have X9 := Lib.hid (X8.out.below hb)
                clear hb X8
                go_wp2_with fail
                go_roundw
                case rel => exact ⟨k + 1, ts, nw, L1, A2, c2, by go_num, by omega, rfl, rfl, by omega, by omega, X9⟩
                case measure => simp [intOf]; omega
            · have e1 : (op % 4 == 1) = false := by simpa using h1
              have HPU := Lib.hid fun W hR => put_any p q nw A1 ss c1 W hR X4.out.v.u (by rw [X4.out.len]; exact X4.out.cap) (by rw [X4.out.len]; omega) p0 p1
              rw [X4.out.len] at HPU
              have hkf : ¬ okB p q = false := by rw [hbok]; simp
              clear HAT
              by_cases h24 : q < 24
              · have ec : putC ss p q = 3 := by unfold putC; rw [if_neg hkf, if_pos (by have := p2_24 (b := q) (by omega) (by omega); omega)]
                have er : putR ss p q nw = [] := put_full ec (by omega)
                rw [ec, er] at HPU
                clear ec er hkf hbok 
                go_wp2_with fail
                refine (HPU.out _ X4.out.row).mono ?_
                rintro e w5 ⟨A2, c2, rfl, hc2, -, hR2, hb⟩
                have X5 := Lib.hid (X4.out.below hb)
                have P5 := Lib.hid (P4.out.below hb)
                clear hb hR2 hc2 X4 t0 q0 q1 HPU
                obtain ⟨q0, q1⟩ := P5.out
                dsimp only [List.length_nil]
                have HLG := Lib.hid fun W hR => X5.out.lright W hR
                have HRR := Lib.hid fun W hR => X5.out.right W hR
                go_wp2_with fail
                refine (HLG.out _ X5.out.row).mono ?_
                rintro e w8 ⟨rfl, hb⟩
                have X8 := Lib.hid (X5.out.below hb)
                clear hb X5
                go_wp2_with fail
                refine (HRR.out _ X8.out.row).mono ?_
                rintro e w9 ⟨rfl, hb⟩
                have X9 := Lib.hid (X8.out.below hb)
                clear hb X8
                go_wp2_with fail
                go_roundw
                case rel => exact ⟨k + 1, ss, nw, L, A1, c1, by go_num, by omega, rfl, rfl, by omega, by omega, X9⟩
                case measure => simp [intOf]; omega
              · have h24' : decide (q < 24) = false := decide_eq_false h24
                cases hov : anyB ss p q
                · by_cases h16 : 16 ≤ L
                  · have h16' : (16 : Int) ≤ L := by omega
                    have ec : putC ss p q = 4 := by unfold putC; rw [if_neg hkf, if_neg (by have := p2_24 (b := q) (by omega) (by omega); omega), if_neg (by rw [hov]; simp), if_pos (by rw [X4.out.len]; exact h16)]
                    have er : putR ss p q nw = [] := put_full ec (by omega)
                    rw [ec, er] at HPU
                    clear ec er hkf hbok hov
                    go_wp2_with fail
                    refine (HPU.out _ X4.out.row).mono ?_
                    rintro e w5 ⟨A2, c2, rfl, hc2, -, hR2, hb⟩
                    have X5 := Lib.hid (X4.out.below hb)
                    have P5 := Lib.hid (P4.out.below hb)
                    clear hb hR2 hc2 X4 t0 q0 q1 HPU
                    obtain ⟨q0, q1⟩ := P5.out
                    dsimp only [List.length_nil]
                    have HLG := Lib.hid fun W hR => X5.out.lright W hR
                    have HRR := Lib.hid fun W hR => X5.out.right W hR
                    go_wp2_with fail
                    refine (HLG.out _ X5.out.row).mono ?_
                    rintro e w8 ⟨rfl, hb⟩
                    have X8 := Lib.hid (X5.out.below hb)
                    clear hb X5
                    go_wp2_with fail
                    refine (HRR.out _ X8.out.row).mono ?_
                    rintro e w9 ⟨rfl, hb⟩
                    have X9 := Lib.hid (X8.out.below hb)
                    clear hb X8
                    go_wp2_with fail
                    go_roundw
                    case rel => exact ⟨k + 1, ss, nw, L, A1, c1, by go_num, by omega, rfl, rfl, by omega, by omega, X9⟩
                    case measure => simp [intOf]; omega
                  · have h16' : decide ((16 : Int) ≤ L) = false := decide_eq_false (by omega)
                    have ec : putC ss p q = 0 := by unfold putC; rw [if_neg hkf, if_neg (by have := p2_24 (b := q) (by omega) (by omega); omega), if_neg (by rw [hov]; simp), if_neg (by rw [X4.out.len]; exact h16)]
                    obtain ⟨tv, tl, -⟩ := put_ok (now := nw) X4.out.v p0 p1 ec
                    rw [ec] at HPU
                    rw [X4.out.len] at tl
                    generalize putR ss p q nw = ts at *
                    have HL1 := Lib.hid tl
                    have HTV := Lib.hid tv
                    clear ec tv tl hkf hbok hov
                    go_wp2_with fail
                    refine (HPU.out _ X4.out.row).mono ?_
                    rintro e w5 ⟨A2, c2, rfl, hc2, -, hR2, hb⟩
                    rw [HL1.out] at hc2 ⊢
                    have X5 := Lib.hid (X4.out.turn HTV.out HL1.out hc2 hR2 hb)
                    have P5 := Lib.hid (P4.out.below hb)
                    clear hb hR2 hc2 X4 t0 q0 q1 HPU
                    obtain ⟨q0, q1⟩ := P5.out
                    have hw1 : IntKind.i64.wrap ((L : Int) + 1) = (L : Int) + 1 := by rw [IntKind.wrap_i64]; omega
                    have HLG := Lib.hid fun W hR => X5.out.lright W hR
                    have HRR := Lib.hid fun W hR => X5.out.right W hR
                    go_wp2_with fail
                    refine (HLG.out _ X5.out.row).mono ?_
                    rintro e w8 ⟨rfl, hb⟩
                    have X8 := Lib.hid (X5.out.below hb)
                    clear hb X5
                    go_wp2_with fail
                    refine (HRR.out _ X8.out.row).mono ?_
                    rintro e w9 ⟨rfl, hb⟩
                    have X9 := Lib.hid (X8.out.below hb)
                    clear hb X8
                    go_wp2_with fail
                    go_roundw
                    case rel => exact ⟨k + 1, ts, nw, L + 1, A2, c2, by go_num, by omega, rfl, rfl, by omega, by omega, X9⟩
                    case measure => simp [intOf]; omega
                · have ec : putC ss p q = 5 := by unfold putC; rw [if_neg hkf, if_neg (by have := p2_24 (b := q) (by omega) (by omega); omega), if_pos hov]
                  have er : putR ss p q nw = [] := put_full ec (by omega)
                  rw [ec, er] at HPU
                  clear ec er hkf hbok hov
                  go_wp2_with fail
                  refine (HPU.out _ X4.out.row).mono ?_
                  rintro e w5 ⟨A2, c2, rfl, hc2, -, hR2, hb⟩
                  have X5 := Lib.hid (X4.out.below hb)
                  have P5 := Lib.hid (P4.out.below hb)
                  clear hb hR2 hc2 X4 t0 q0 q1 HPU
                  obtain ⟨q0, q1⟩ := P5.out
                  dsimp only [List.length_nil]
                  have HLG := Lib.hid fun W hR => X5.out.lright W hR
                  have HRR := Lib.hid fun W hR => X5.out.right W hR
                  go_wp2_with fail
                  refine (HLG.out _ X5.out.row).mono ?_
                  rintro e w8 ⟨rfl, hb⟩
                  have X8 := Lib.hid (X5.out.below hb)
                  clear hb X5
                  go_wp2_with fail
                  refine (HRR.out _ X8.out.row).mono ?_
                  rintro e w9 ⟨rfl, hb⟩
                  have X9 := Lib.hid (X8.out.below hb)
                  clear hb X8
                  go_wp2_with fail
                  go_roundw
                  case rel => exact ⟨k + 1, ss, nw, L, A1, c1, by go_num, by omega, rfl, rfl, by omega, by omega, X9⟩
                  case measure => simp [intOf]; omega
    · obtain rfl : N = k := by omega
      go_wp2_with fail
      go_ret
      exact ⟨rfl, HX.out.bel⟩
end Go.Proofs.Ytenolbgadlehpaa
