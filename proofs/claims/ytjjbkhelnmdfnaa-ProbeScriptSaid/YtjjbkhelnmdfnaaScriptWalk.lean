/-
  ProbeScript's walk: which questions wait, deed by deed. Conditions: what comes in lies in memory, and numbers have their bits.
-/
import Derived.BigGuard
import Derived.Test.YtjjbkhelnmdfnaaTxt
set_option linter.unusedSimpArgs false
set_option linter.unusedVariables false
namespace Go.Proofs.Ytjjbkhelnmdfnaa
open Go.RowKit

set_option maxRecDepth 100000 in
set_option maxHeartbeats 32000000 in
theorem probeScript_walk (x : Hc) (B : Option Addr) (ys : List Ac) (cy : Nat) (w : World) (hx : x.Ok) (hB : Rw eC w B ys) (hcy : ys.length ≤ cy) (hok : ∀ y ∈ ys, y.Ok) :
    Calls Try.prog 3 #[hv x, .slice B ys.length cy] w fun e w' => e = .returned (.bool true) ∧ Below w.heap.size w w' := by
  have hln := hB.1
  have B0 := Lib.hid (show Below w.heap.size w (w.alloc (Hcx x)) from (Below.refl _ w).alloc (Nat.le_refl _) _)
  have M0 := Lib.hid (show Hm (w.alloc (Hcx x)) w.heap.size x from hc_box w x)
  obtain ⟨zs, hzs⟩ : ∃ zs, ys.take 120 = zs := ⟨_, rfl⟩
  have RB0 := Lib.hid (show Rw eC (w.alloc (Hcx x)) B zs from hzs ▸ (hB.below B0.out).take 120)
  have HOK := Lib.hid (show ∀ y ∈ zs, y.Ok from fun y hy => hok y (List.mem_of_mem_take (hzs ▸ hy)))
  have hzn : zs.length = min 120 ys.length := by rw [← hzs, List.length_take]
  have HCH := Lib.hid fun W => choice_any x W hx
  have hg8 := ch_g x
  obtain ⟨C, hC⟩ : ∃ C, ch x = C := ⟨_, rfl⟩
  rw [hC] at HCH hg8
  have HG8 := Lib.hid (show C.g ≤ 8 by omega)
  clear hB hok hC hzs hg8
  obtain ⟨Ly, hLy⟩ : ∃ n, ys.length = n := ⟨_, rfl⟩
  rw [hLy] at hln hcy hzn ⊢
  clear hLy
  obtain ⟨N, hN⟩ : ∃ n, zs.length = n := ⟨_, rfl⟩
  have HN := Lib.hid hN
  rw [hN] at hzn
  clear hN
  have hmin : min (Ly : Int) 120 = (N : Int) := by omega
  have hNc : N ≤ cy := by omega
  have hNc' : (N : Int) ≤ cy := by omega
  have hN100 : N ≤ 120 := by omega
  have HSL := run_sl24 B Ly cy N hNc
  unfold hv Hcx cfv at *
  clear hzn
  go_enter Try.func3, Try.ntmps3
  go_wp2_with fail
  generalize w.alloc (.cells #[.int .u8 x.a, .int .u8 x.b, .int .u8 x.c, .int .u8 x.d, .int .u8 x.e, .int .u8 x.f, .int .u8 x.g, .int .u8 x.h, .int .u8 x.i] 23) = W0 at *
  refine (awake_any W0).mono ?_
  rintro e W1 ⟨rfl, hb⟩
  have B1 := Lib.hid (B0.out.trans (hb.mono B0.out.size))
  have M1 := Lib.hid (M0.out.below hb)
  have RB1 := Lib.hid (RB0.out.below hb)
  clear hb M0 RB0
  go_wp2_with (refine at_load23 (.tmp 2) rfl rfl _ x rfl M1.out ?_)
  refine (HCH.out W1).mono ?_
  rintro e W2 ⟨rfl, hb⟩
  have B2a := Lib.hid (B1.out.trans (hb.mono B1.out.size))
  have RB2a := Lib.hid (RB1.out.below hb)
  have C2 := Lib.hid (cm_box W2 C)
  have B2 := Lib.hid (B2a.out.alloc B2a.out.size (Cfx C))
  have RB2 := Lib.hid (RB2a.out.below ((Below.refl _ W2).alloc (Nat.le_refl _) (Cfx C)))
  clear hb RB1 M1 B2a RB2a
  go_upto_region 4 with fail
  change Code.wp _ _ _ _ (W2.alloc (Cfx C))
  generalize W2.alloc (Cfx C) = W3 at *
  obtain ⟨bc, hbc⟩ : ∃ bc, W2.heap.size = bc := ⟨_, rfl⟩
  rw [hbc] at C2 ⊢
  clear hbc
  have T0 := Lib.hid (show Tx w C bc B zs [] 0 none 0 W3 from ⟨V.nil, rfl, Nat.le_refl _, Rw.nil _ _, RB2.out, C2.out, B2.out⟩)
  clear B2 RB2 C2
  go_wp2_with fail
  clear HSL hmin
  go_loopw [6, 7, 36] (fun v t i wr => ∃ (k : Nat) (ss : List Pr) (nw : Int) (L : Nat) (A1 : Option Addr) (c1 : Nat), i = .int .i64 k ∧ k ≤ N ∧ v = .slice A1 L c1 ∧ t = .int .i64 nw ∧ 0 ≤ nw ∧ nw ≤ 4 * k ∧ Hid (Tx w C bc B zs ss L A1 c1 wr)) (fun _ _ i _ => N - (intOf i).toNat)
  case atStart => exact ⟨0, [], 0, 0, none, 0, rfl, by omega, rfl, rfl, by omega, by omega, T0⟩
  case round =>
    obtain ⟨k, ss, nw, L, A1, c1, rfl, hk, rfl, rfl, hnw0, hnw1, HX⟩ := hrel
    by_cases hkN : k < N
    · obtain ⟨a, ha⟩ : ∃ a, zs[k]? = some a := ⟨_, List.getElem?_eq_getElem (by rw [HN.out]; exact hkN)⟩
      have hak := HOK.out a (List.mem_of_getElem? ha)
      have hra := HX.out.acts
      obtain ⟨y, rfl⟩ := rw_some hra (by rw [HN.out]; omega)
      have hat := hra.at ha
      obtain ⟨s0, s1, s2, s3⟩ := ac_box wr a
      have X1 := Lib.hid (HX.out.below ((Below.refl _ wr).alloc (Nat.le_refl _) (Acx a)))
      have hL16 := HX.out.few
      obtain ⟨o0, o1⟩ := hak.o
      obtain ⟨p0, p1⟩ := hak.p
      obtain ⟨e0', e1'⟩ := hak.q
      obtain ⟨r0, r1⟩ := hak.r
      have HNR := Lib.hid fun W => near_any a.p W p0 p1
      obtain ⟨b0, b1⟩ := nr_in a.p
      generalize nr a.p = b at *
      have O1 := Lib.hid (show Am (wr.alloc (Acx a)) wr.heap.size a from ac_box wr a)
      clear ha hra hak HX
      unfold Acx at *
      go_wp2_with (refine at_load32 (.tmp 38) rfl rfl (y.add (k * 4)) a rfl hat ?_)
      refine (HNR.out _).mono ?_
      rintro e w1 ⟨rfl, rfl⟩
      generalize wr.alloc (.cells #[.int .u8 a.o, .int .u8 a.p, .int .u16 a.q, .int .u8 a.r] 32) = W3 at *
      generalize wr.heap.size = bo at *
      clear s0 s1 s2 s3 hat HNR
      go_wp2_with fail
      go_loopw [11, 45] (fun t i wr => ∃ (j : Nat) (u : Int), i = .int .i64 j ∧ j ≤ L ∧ t = .int .i64 u ∧ -1 ≤ u ∧ u < 16 ∧ Hid (Pa ss j b u ∧ Below W3.heap.size W3 wr)) (fun _ i _ => L - (intOf i).toNat)
      case atStart => exact ⟨0, -1, rfl, by omega, rfl, by omega, by omega, Lib.hid ⟨pa_zero ss b, Below.refl _ _⟩⟩
      case round =>
        obtain ⟨j, u, rfl, hj, rfl, hu0, hu1, HE⟩ := hrel
        by_cases hjL : j < L
        · obtain ⟨z, hz⟩ := at_of_lt (xs := ss) (k := j) (by rw [X1.out.len]; exact hjL)
          have hrs := X1.out.row
          obtain ⟨y1, rfl⟩ := rw_some hrs (by rw [X1.out.len]; omega)
          have hat := (hrs.below HE.out.2).at hz
          have HY := Lib.hid (pa_yes (b := b) hz)
          have HNO := Lib.hid (pa_no HE.out.1 hz)
          have B1' := Lib.hid (show Below W3.heap.size W3 (wr.alloc (Prx z)) from HE.out.2.alloc HE.out.2.size _)
          unfold Prx at *
          clear hz hrs
          cases he : (z.a == b)
          · have HEE := Lib.hid he
            go_wp2_with (refine at_load37 (.tmp 48) rfl rfl (y1.add (j * 5)) z rfl hat ?_)
            go_roundw
            case rel => exact ⟨j + 1, u, by go_num, by omega, rfl, hu0, hu1, Lib.hid ⟨HNO.out HEE.out, B1'.out⟩⟩
            case measure => simp [intOf]; omega
          · have HEE := Lib.hid he
            go_wp2_with (refine at_load37 (.tmp 48) rfl rfl (y1.add (j * 5)) z rfl hat ?_)
            go_roundw
            case rel => exact ⟨j + 1, (j : Int), by go_num, by omega, rfl, by omega, by omega, Lib.hid ⟨HY.out HEE.out, B1'.out⟩⟩
            case measure => simp [intOf]; omega
        · obtain rfl : L = j := by omega
          obtain ⟨hpa, he2⟩ := HE.out
          have HPA := Lib.hid hpa
          have X4 := Lib.hid (X1.out.below he2)
          have O4 := Lib.hid (O1.out.below he2)
          have hfull : ss.take L = ss := List.take_of_length_le (by rw [X4.out.len]; exact Nat.le_refl _)
          have HFU := Lib.hid hfull
          clear HE hpa he2 X1 O1 hfull
          obtain ⟨wo, rfl⟩ : ∃ wo, wo = wr := ⟨_, rfl⟩
          obtain ⟨t0, t1, t2, t3⟩ := O4.out
          by_cases h0 : a.o % 4 = 0
          · have e0 : (a.o % 4 == 0) = true := by simpa using h0
            as_aux_lemma =>
              have HPL := Lib.hid fun W hR => late_any C (nw + a.r % 5) (a.r % 7) A1 ss c1 W hR (by rw [X4.out.len]; omega) (V.n X4.out.v)
              have HLP := Lib.hid fun W hR => llate_any C (nw + a.r % 5) (a.r % 7) A1 ss c1 W hR (by rw [X4.out.len]; omega) (V.n X4.out.v) (V.t X4.out.v) (by omega) (by omega)
              rw [X4.out.len] at HPL HLP
              have HLV := Lib.hid (lt_ok (wt := C.f) (ag := C.g) (now := nw + a.r % 5) (room := a.r % 7) X4.out.v HG8.out)
              obtain ⟨l1, l2⟩ := lt_len C.f C.g (nw + a.r % 5) (a.r % 7) ss
              rw [X4.out.len] at l1
              generalize ltO C.f C.g (nw + a.r % 5) (a.r % 7) ss = S at *
              obtain ⟨S1, S2⟩ := S
              dsimp only at HLV l1 l2
              obtain ⟨L1, hL1⟩ : ∃ n, S1.length = n := ⟨_, rfl⟩
              have HL1 := Lib.hid hL1
              rw [hL1] at l1 l2
              obtain ⟨n2, hn2⟩ : ∃ n, S2.length = n := ⟨_, rfl⟩
              have HN2 := Lib.hid hn2
              rw [hn2] at l2
              clear hL1 hn2
              have C4 := Lib.hid X4.out.cm
              go_wp2_with (refine at_load27 (.tmp 5) rfl rfl _ C rfl C4.out.at ?_)
              refine (HPL.out _ X4.out.row).mono ?_
              rintro e w5 ⟨A2, c2, A3, c3, rfl, hc2, hc3, hR2, hR3, hb⟩
              dsimp only at hc2 hc3 hR2 hR3 ⊢
              rw [HL1.out] at hc2 ⊢
              rw [HN2.out]
              have X5 := Lib.hid (X4.out.below hb)
              have O5 := Lib.hid (O4.out.below hb)
              have RL5 := Lib.hid hR2
              have RQ5 := Lib.hid hR3
              have HC2 := Lib.hid hc2
              clear hb hR2 hR3 hc2 hc3 X4 C4 t0 t1 t2 t3 O4
              obtain ⟨t0, t1, t2, t3⟩ := O5.out
              have C5 := Lib.hid X5.out.cm
              go_wp2_with (refine at_load27 (.tmp 5) rfl rfl _ C rfl C5.out.at ?_)
              refine (HLP.out _ X5.out.row).mono ?_
              rintro e w6 ⟨A4, c4, A5, c5', rfl, hc4, hc5, hR4, hR5, hb⟩
              dsimp only at hc4 hc5 hR4 hR5 ⊢
              rw [HL1.out, HN2.out]
              have X6 := Lib.hid (X5.out.turn HLV.out HL1.out HC2.out (RL5.out.below hb) hb)
              have HSA := Lib.hid (same_any A2 A4 S1 S1 c2 c4 w6 (RL5.out.below hb) hR4)
              rw [decide_eq_true rfl, HL1.out] at HSA
              have HSB := Lib.hid fun q => same_any A3 A5 S2 S2 c3 c5' (w6.drewN q) ((RQ5.out.below hb).drewN q) (hR5.drewN q)
              rw [decide_eq_true rfl, HN2.out] at HSB
              clear hb hR4 hR5 hc4 hc5 X5 C5 RL5 RQ5 t0 t1 t2 t3 O5
              go_wp2_with fail
              refine HSA.out.mono ?_
              rintro e w7 ⟨rfl, q7, rfl⟩
              go_wp2_with fail
              refine (HSB.out q7).mono ?_
              rintro e w8 ⟨rfl, q8, rfl⟩
              have X8 := Lib.hid ((X6.out.drew q7).drew q8)
              clear X6 HSA HSB
              generalize (w6.drewN q7).drewN q8 = W8 at *
              have HRR := Lib.hid fun W hR => X8.out.right W hR
              go_wp2_with fail
              refine (HRR.out _ X8.out.row).mono ?_
              rintro e w9 ⟨rfl, hb⟩
              have X9 := Lib.hid (X8.out.below hb)
              clear hb X8
              go_wp2_with fail
              go_roundw
              case rel => exact ⟨k + 1, S1, nw + a.r % 5, L1, A2, c2, by go_num, by omega, rfl, rfl, by omega, by omega, X9⟩
              case measure => simp [intOf]; omega
          · have e0 : (a.o % 4 == 0) = false := by simpa using h0
            by_cases h1 : a.o % 4 = 1
            · have e1 : (a.o % 4 == 1) = true := by simpa using h1
              obtain ⟨i, hi⟩ : ∃ i, b % 65536 = i := ⟨_, rfl⟩
              have hi0 : 0 ≤ i ∧ i < 65536 := by omega
              have hm : b.tmod 65536 = i := by rw [Int.tmod_eq_emod_of_nonneg b0]; exact hi
              have HI := Lib.hid hi
              obtain ⟨hi0, hi1⟩ := hi0
              clear hi
              obtain ⟨an, han⟩ : ∃ an, decide (0 < a.r % 5) = an := ⟨_, rfl⟩
              have HMA := Lib.hid fun p W hR => match_any p A1 ss c1 W hR (by rw [X4.out.len]; exact X4.out.cap) (by rw [X4.out.len]; omega)
              rw [X4.out.len] at HMA
              have X5a := Lib.hid (X4.out.below ((Below.refl _ wo).alloc (Nat.le_refl _) (Pkx ⟨an, b, 0, 0, 0, 0, 0, 0, 0, i, a.q⟩)))
              have O5a := Lib.hid (O4.out.below ((Below.refl _ wo).alloc (Nat.le_refl _) (Pkx ⟨an, b, 0, 0, 0, 0, 0, 0, 0, i, a.q⟩)))
              have K5a := Lib.hid (kb_box wo ⟨an, b, 0, 0, 0, 0, 0, 0, 0, i, a.q⟩)
              have HWO := Lib.hid (show Below wo.heap.size wo (wo.alloc (Pkx ⟨an, b, 0, 0, 0, 0, 0, 0, 0, i, a.q⟩)) from (Below.refl _ wo).alloc (Nat.le_refl _) _)
              unfold Pkx at *
              dsimp only at X5a O5a K5a HWO
              go_upto_region 40 with fail
              generalize wo.alloc (.cells #[.bool an, .int .u32 b, .int .u32 0, .int .u8 0, .int .u8 0, .int .u8 0, .int .u8 0, .int .u8 0, .int .u8 0, .int .i64 i, .int .i64 a.q] 44) = W5 at *
              clear t0 t1 t2 t3 O4 hm han
              obtain ⟨t0, t1, t2, t3⟩ := O5a.out
              obtain ⟨k0, k1, k9, k10⟩ := K5a.out.c
              dsimp only at k0 k1 k9 k10
              have hPA := HPA.out
              unfold Pa at hPA
              rw [HFU.out] at hPA
              rcases hPA with ⟨rfl, hto⟩ | ⟨m, z, rfl, hmL, hz, hza⟩
              · have HMV := Lib.hid (mat_no (p := ⟨an, b, 0, 0, 0, 0, 0, 0, 0, i, a.q⟩) hto)
                clear hto O5a X4 HWO
                as_aux_lemma =>
                  go_upto_region 42 with fail
                  go_quiet (fail)
                  have X6 := Lib.hid (X5a.out.drew nq)
                  have K6 := Lib.hid (K5a.out.drewN nq)
                  generalize W5.drewN nq = W6 at *
                  have HM1 := Lib.hid (HMA.out ⟨an, b, 0, 0, 0, 0, 0, 0, 0, i, a.q⟩ W6 X6.out.row)
                  rw [HMV.out.1, HMV.out.2] at HM1
                  unfold pkv at HM1
                  dsimp only at HM1
                  clear X5a K5a k0 k1 k9 k10
                  go_wp2_with (refine at_load44 (.tmp 18) rfl rfl _ ⟨an, b, 0, 0, 0, 0, 0, 0, 0, i, a.q⟩ rfl K6.out.at ?_)
                  refine HM1.out.mono ?_
                  rintro e w7 ⟨A2, c2, rfl, hc2, -, hR2, hb⟩
                  have X7 := Lib.hid (X6.out.below hb)
                  clear hb hR2 hc2 X6 K6 HM1 HMV HMA
                  dsimp only [List.length_nil]
                  have HRR := Lib.hid fun W hR => X7.out.right W hR
                  go_wp2_with fail
                  refine (HRR.out _ X7.out.row).mono ?_
                  rintro e w9 ⟨rfl, hb⟩
                  have X9 := Lib.hid (X7.out.below hb)
                  clear hb X7
                  go_wp2_with fail
                  go_roundw
                  case rel => exact ⟨k + 1, ss, nw, L, A1, c1, by go_num, by omega, rfl, rfl, by omega, by omega, X9⟩
                  case measure => simp [intOf]; omega
              · have hmi : (0 : Int) ≤ (m : Int) := by omega
                have hrs := X5a.out.row
                obtain ⟨y1, rfl⟩ := rw_some hrs (by rw [X5a.out.len]; omega)
                have hzc := rw_f hrs hz
                have hz0 := rw_f X4.out.row hz
                have HMY := Lib.hid fun (p : Pk) (hf : p.f = b) (hpi : p.i = i) => mat_yes (ss := ss) (p := p) X5a.out.v hz (by rw [hf]; exact hza) (by rw [hpi, hf, HI.out])
                have HMN := Lib.hid fun (p : Pk) (hf : p.f = b) (hpi : p.i = i) => mat_not (ss := ss) (p := p) X5a.out.v hz (by rw [hf]; exact hza) (by rw [hpi, hf, HI.out])
                have HDV := Lib.hid (del_ok X5a.out.v m)
                have HDL := Lib.hid (show (del ss m).length + 1 = L by rw [← X5a.out.len]; exact del_len (by rw [X5a.out.len]; exact hmL))
                have f10 := K5a.out.fr2 10 (by omega)
                have HMS := Lib.hid hmL
                clear hz hza hrs
                by_cases h3 : 0 < a.r % 3
                · have HB6 := Lib.hid ((HWO.out).setCell (p := ⟨wo.heap.size, 10, none⟩) (Nat.le_refl _) (.int .i64 z.s))
                  have X6a := Lib.hid (X4.out.below HB6.out)
                  have K6a := Lib.hid (K5a.out.set10 z.s)
                  have hzc6 := (HB6.out.cell (World.block_lt_of_cell? _ _ hz0)).trans hz0
                  dsimp only at K6a
                  clear K5a X4 X5a hz0
                  cases an
                  · have HMV := Lib.hid (HMN.out ⟨false, b, 0, 0, 0, 0, 0, 0, 0, i, z.s⟩ rfl rfl (by simp))
                    clear HMY HMN
                    as_aux_lemma =>
                      go_upto_region 42 with fail
                      go_quiet (fail)
                      have X6 := Lib.hid (X6a.out.drew nq)
                      have K6 := Lib.hid (K6a.out.drewN nq)
                      generalize (W5.setCell ⟨wo.heap.size, 10, none⟩ (.int .i64 z.s)).drewN nq = W6 at *
                      have HM1 := Lib.hid (HMA.out ⟨false, b, 0, 0, 0, 0, 0, 0, 0, i, z.s⟩ W6 X6.out.row)
                      rw [HMV.out.1, HMV.out.2] at HM1
                      unfold pkv at HM1
                      dsimp only at HM1
                      clear X6a K6a k0 k1 k9 k10
                      go_wp2_with (refine at_load44 (.tmp 18) rfl rfl _ ⟨false, b, 0, 0, 0, 0, 0, 0, 0, i, z.s⟩ rfl K6.out.at ?_)
                      refine HM1.out.mono ?_
                      rintro e w7 ⟨A2, c2, rfl, hc2, -, hR2, hb⟩
                      have X7 := Lib.hid (X6.out.below hb)
                      clear hb hR2 hc2 X6 K6 HM1 HMV HMA
                      dsimp only [List.length_nil]
                      have HRR := Lib.hid fun W hR => X7.out.right W hR
                      go_wp2_with fail
                      refine (HRR.out _ X7.out.row).mono ?_
                      rintro e w9 ⟨rfl, hb⟩
                      have X9 := Lib.hid (X7.out.below hb)
                      clear hb X7
                      go_wp2_with fail
                      go_roundw
                      case rel => exact ⟨k + 1, ss, nw, L, (some y1), c1, by go_num, by omega, rfl, rfl, by omega, by omega, X9⟩
                      case measure => simp [intOf]; omega
                  · have HMV := Lib.hid (HMY.out ⟨true, b, 0, 0, 0, 0, 0, 0, 0, i, z.s⟩ rfl rfl rfl rfl)
                    have hzz : (z.s == z.s) = true := by simp
                    clear HMY HMN
                    as_aux_lemma =>
                      go_upto_region 42 with fail
                      go_quiet (fail)
                      have X6 := Lib.hid (X6a.out.drew nq)
                      have K6 := Lib.hid (K6a.out.drewN nq)
                      generalize (W5.setCell ⟨wo.heap.size, 10, none⟩ (.int .i64 z.s)).drewN nq = W6 at *
                      have HM1 := Lib.hid (HMA.out ⟨true, b, 0, 0, 0, 0, 0, 0, 0, i, z.s⟩ W6 X6.out.row)
                      rw [HMV.out.1, HMV.out.2] at HM1
                      unfold pkv at HM1
                      dsimp only at HM1
                      clear X6a K6a k0 k1 k9 k10
                      go_wp2_with (refine at_load44 (.tmp 18) rfl rfl _ ⟨true, b, 0, 0, 0, 0, 0, 0, 0, i, z.s⟩ rfl K6.out.at ?_)
                      refine HM1.out.mono ?_
                      rintro e w7 ⟨A2, c2, rfl, hc2, -, hR2, hb⟩
                      have X7 := Lib.hid (X6.out.below hb)
                      have RL7 := Lib.hid hR2
                      obtain ⟨L1, hL1⟩ : ∃ n, (del ss m).length = n := ⟨_, rfl⟩
                      have HLD := Lib.hid hL1
                      have hL2 : L1 + 1 = L := by rw [← hL1]; exact HDL.out
                      rw [hL1] at hc2 ⊢
                      have hwL : IntKind.i64.wrap ((L : Int) - 1) = (L1 : Int) := by rw [IntKind.wrap_i64]; omega
                      have hneL : ((L1 : Int) != (L : Int) - 1) = false := by simp; omega
                      have hmLL := HMS.out
                      have HSH := Lib.hid (fun W => run_sl29 (some y1) L c1 m (by have := X7.out.cap; omega) W)
                      have HSL := Lib.hid (fun W => run_sl29l (some y1) L c1 (m + 1) (by omega) X7.out.cap W)
                      have HWR := Lib.hid (show IntKind.i64.wrap ((m : Int) + 1) = (m : Int) + 1 by rw [IntKind.wrap_i64]; omega)
                      have HTL := Lib.hid (show (ss.take m).length = m by rw [List.length_take, X7.out.len]; omega)
                      have HDR := Lib.hid (show L - (m + 1) = (ss.drop (m + 1)).length by rw [List.length_drop, X7.out.len])
                      have HRD := Lib.hid (show ∀ W, Below w7.heap.size w7 W → Rw eP W (dA 5 (some y1) c1 (m + 1)) (ss.drop (m + 1)) from fun W hW => (X7.out.row.below hW).rest (by rw [X7.out.len]; exact X7.out.cap) _)
                      have HNR := Lib.hid (show ∀ W, Below w7.heap.size w7 W → ∃ v W', (Builtin.append_ #[29, 29] 29 #[.slice none 0 0, .slice (some y1) m c1]).run Try.prog W = .ok v W' ∧ Below W.heap.size W W' ∧ oF w7.heap.size (ss.take m) v W' from fun W hW => by
                        have := new_row W 29 w7.heap.size hW.size (some y1) (ss.take m) c1 ((X7.out.row.below hW).take m) (by rw [HTL.out]; omega)
                        rw [HTL.out] at this
                        exact this)
                      clear hb hR2 hc2 X6 K6 HM1 HMV HMA hL1
                      go_upto_region 47 with fail
                      refine wp_region_below_tail 8 [fx (.slice (some y1) L c1), fx (.int .i64 (m : Int)), fx (.slice (some y1) m c1), oF w7.heap.size (ss.take m), fx (.slice (some y1) L c1), fx (.int .i64 (m : Int)), fx (.int .i64 ((m + 1 : Nat) : Int)), fx (.slice (dA 5 (some y1) c1 (m + 1)) (L - (m + 1)) (c1 - (m + 1)))]
                        (by kernel_rfl) (by simp) (by kernel_rfl) (by kernel_rfl) (by kernel_rfl) ?_ ?_ ?_
                      · simp only [List.mem_cons, List.not_mem_nil, or_false]
                        rintro φ (rfl | rfl | rfl | rfl | rfl | rfl | rfl | rfl)
                        all_goals first | exact stable_fx _ | exact stable_fr _ _ | exact stable_oF _ _
                      · refine OgSteps.cons ?_ (OgSteps.cons ?_ (OgSteps.cons ?_ (OgSteps.cons ?_ (OgSteps.cons ?_ (OgSteps.cons ?_ (OgSteps.cons ?_ (OgSteps.cons ?_ (OgSteps.nil))))))))
                        · refine OgStep.pure ?_ ?_
                          · rfl
                          intro u W hS hp
                          refine ⟨.slice (some y1) L c1, ?_, rfl⟩
                          simp only [ogMk, Act.put, List.setIfInBounds_toArray, List.set_cons_zero, List.set_cons_succ, Nat.zero_add, Nat.reduceAdd, List.take_succ_cons, List.take_zero, List.drop_succ_cons, List.drop_zero]
                          simp [execOp, Act.eval, go_sem]
                        · refine OgStep.pure ?_ ?_
                          · rfl
                          intro u W hS hp
                          refine ⟨.int .i64 (m : Int), ?_, rfl⟩
                          simp only [ogMk, Act.put, List.setIfInBounds_toArray, List.set_cons_zero, List.set_cons_succ, Nat.zero_add, Nat.reduceAdd, List.take_succ_cons, List.take_zero, List.drop_succ_cons, List.drop_zero]
                          simp [execOp, Act.eval, go_sem]
                        · refine OgStep.pure ?_ ?_
                          · rfl
                          intro u W hS hp
                          have h0 : u 0 = .slice (some y1) L c1 := hp ⟨0, .data⟩ (by simp) rfl
                          have h1 : u 1 = .int .i64 (m : Int) := hp ⟨1, .data⟩ (by simp) rfl
                          have R := HSH.out W
                          refine ⟨.slice (some y1) m c1, ?_, rfl⟩
                          simp only [ogMk, Act.put, List.setIfInBounds_toArray, List.set_cons_zero, List.set_cons_succ, Nat.zero_add, Nat.reduceAdd, List.take_succ_cons, List.take_zero, List.drop_succ_cons, List.drop_zero]
                          simp [execOp, Act.eval, go_sem, h0, h1, R]
                        · refine OgStep.made ?_ ?_
                          · rfl
                          intro u W hS hp
                          have h2 : u 2 = .slice (some y1) m c1 := hp ⟨2, .data⟩ (by simp) rfl
                          obtain ⟨v1, W1, hr1, hb1, ho1⟩ := HNR.out W hS
                          refine ⟨v1, W1, exec_append (.const (.slice none 0 0)) (.tmp 229) rfl rfl ?_ hr1, hb1, ho1⟩
                          simp only [ogMk, Act.put, List.setIfInBounds_toArray, List.set_cons_zero, List.set_cons_succ, Nat.zero_add, Nat.reduceAdd, List.take_succ_cons, List.take_zero, List.drop_succ_cons, List.drop_zero]
                          simp [Act.eval, h2]
                        · refine OgStep.pure ?_ ?_
                          · rfl
                          intro u W hS hp
                          refine ⟨.slice (some y1) L c1, ?_, rfl⟩
                          simp only [ogMk, Act.put, List.setIfInBounds_toArray, List.set_cons_zero, List.set_cons_succ, Nat.zero_add, Nat.reduceAdd, List.take_succ_cons, List.take_zero, List.drop_succ_cons, List.drop_zero]
                          simp [execOp, Act.eval, go_sem]
                        · refine OgStep.pure ?_ ?_
                          · rfl
                          intro u W hS hp
                          refine ⟨.int .i64 (m : Int), ?_, rfl⟩
                          simp only [ogMk, Act.put, List.setIfInBounds_toArray, List.set_cons_zero, List.set_cons_succ, Nat.zero_add, Nat.reduceAdd, List.take_succ_cons, List.take_zero, List.drop_succ_cons, List.drop_zero]
                          simp [execOp, Act.eval, go_sem]
                        · refine OgStep.pure ?_ ?_
                          · rfl
                          intro u W hS hp
                          have h5 : u 5 = .int .i64 (m : Int) := hp ⟨5, .data⟩ (by simp) rfl
                          have R := HWR.out
                          refine ⟨.int .i64 ((m + 1 : Nat) : Int), ?_, rfl⟩
                          simp only [ogMk, Act.put, List.setIfInBounds_toArray, List.set_cons_zero, List.set_cons_succ, Nat.zero_add, Nat.reduceAdd, List.take_succ_cons, List.take_zero, List.drop_succ_cons, List.drop_zero]
                          simp [execOp, Act.eval, go_sem, h5, R]
                        · refine OgStep.pure ?_ ?_
                          · rfl
                          intro u W hS hp
                          have h4 : u 4 = .slice (some y1) L c1 := hp ⟨4, .data⟩ (by simp) rfl
                          have h6 : u 6 = .int .i64 ((m + 1 : Nat) : Int) := hp ⟨6, .data⟩ (by simp) rfl
                          have R := HSL.out W
                          rw [show ((m + 1 : Nat) : Int) = (m : Int) + 1 by omega] at R
                          refine ⟨.slice (dA 5 (some y1) c1 (m + 1)) (L - (m + 1)) (c1 - (m + 1)), ?_, rfl⟩
                          simp only [ogMk, Act.put, List.setIfInBounds_toArray, List.set_cons_zero, List.set_cons_succ, Nat.zero_add, Nat.reduceAdd, List.take_succ_cons, List.take_zero, List.drop_succ_cons, List.drop_zero]
                          simp [execOp, Act.eval, go_sem, h4, h6, R]
                      · intro u W hS hF'
                        have hF := hF'
                        have e0 : u 0 = .slice (some y1) L c1 := hF 0 (by decide)
                        have e1 : u 1 = .int .i64 (m : Int) := hF 1 (by decide)
                        have e2 : u 2 = .slice (some y1) m c1 := hF 2 (by decide)
                        have e4 : u 4 = .slice (some y1) L c1 := hF 4 (by decide)
                        have e5 : u 5 = .int .i64 (m : Int) := hF 5 (by decide)
                        have e6 : u 6 = .int .i64 ((m + 1 : Nat) : Int) := hF 6 (by decide)
                        have e7 : u 7 = .slice (dA 5 (some y1) c1 (m + 1)) (L - (m + 1)) (c1 - (m + 1)) := hF 7 (by decide)
                        simp only [ogMk, Act.put, List.setIfInBounds_toArray, List.set_cons_zero, List.set_cons_succ, Nat.zero_add, Nat.reduceAdd, List.take_succ_cons, List.take_zero, List.drop_succ_cons, List.drop_zero]
                        rw [e0, e1, e2, e4, e5, e6, e7]
                        clear e0 e1 e2 e4 e5 e6 e7 hF
                        have hF1 : oF w7.heap.size (ss.take m) (u 3) W := hF' 3 (by decide)
                        generalize hu1 : u 3 = v1 at *
                        have HO1 := Lib.hid hF1
                        have HS := Lib.hid hS
                        clear hF' hF1 hS hu1
                        refine wpList_append_rw tP W rfl (.tmp 230) (.tmp 234) rfl w7.heap.size v1 m (ss.take m) (by simp [Act.eval, Act.put]) (by have := HO1.out; unfold oF at this; rwa [HTL.out] at this) (dA 5 (some y1) c1 (m + 1)) (L - (m + 1)) (c1 - (m + 1)) (ss.drop (m + 1)) (by simp [Act.eval, Act.put]) HDR.out (HRD.out W HS.out) (by omega) HS.out.size ?_
                        intro v2 w8 ho2 hg2
                        have HB8 := Lib.hid (HS.out.grown hg2 HS.out.size (fun j hj => (HO1.out.lt j hj).1))
                        obtain ⟨A6, c6, rfl, hc6, -, -, hR6, -⟩ := own_rw (E := eP) (xs := del ss m) ho2 (by rw [HLD.out]; omega)
                        rw [HLD.out] at hc6 ⊢
                        have X8 := Lib.hid (X7.out.turn HDV.out HLD.out hc6 hR6 HB8.out)
                        have HSA := Lib.hid (same_any A2 A6 (del ss m) (del ss m) c2 c6 w8 (RL7.out.below HB8.out) hR6)
                        rw [decide_eq_true rfl, HLD.out] at HSA
                        clear ho2 hg2 hR6 HNR HO1 HS RL7 HB8 X7
                        go_wp2_with fail
                        refine HSA.out.mono ?_
                        rintro e w10 ⟨rfl, n3, rfl⟩
                        have X10 := Lib.hid (X8.out.drew n3)
                        clear X8 HSA
                        generalize w8.drewN n3 = W10 at *
                        have HRR := Lib.hid fun W hR => X10.out.right W hR
                        go_wp2_with fail
                        refine (HRR.out _ X10.out.row).mono ?_
                        rintro e w9 ⟨rfl, hb⟩
                        have X9 := Lib.hid (X10.out.below hb)
                        clear hb X10
                        go_wp2_with fail
                        go_roundw
                        case rel => exact ⟨k + 1, del ss m, nw, L1, A6, c6, by go_num, by omega, rfl, rfl, by omega, by omega, X9⟩
                        case measure => simp [intOf]; omega
                · have h3' : decide (0 < a.r % 3) = false := decide_eq_false h3
                  clear X4 O5a HWO f10 hz0
                  cases an
                  · have HMV := Lib.hid (HMN.out ⟨false, b, 0, 0, 0, 0, 0, 0, 0, i, a.q⟩ rfl rfl (by simp))
                    clear HMY HMN
                    as_aux_lemma =>
                      go_upto_region 42 with fail
                      go_quiet (fail)
                      have X6 := Lib.hid (X5a.out.drew nq)
                      have K6 := Lib.hid (K5a.out.drewN nq)
                      generalize W5.drewN nq = W6 at *
                      have HM1 := Lib.hid (HMA.out ⟨false, b, 0, 0, 0, 0, 0, 0, 0, i, a.q⟩ W6 X6.out.row)
                      rw [HMV.out.1, HMV.out.2] at HM1
                      unfold pkv at HM1
                      dsimp only at HM1
                      clear X5a K5a k0 k1 k9 k10
                      go_wp2_with (refine at_load44 (.tmp 18) rfl rfl _ ⟨false, b, 0, 0, 0, 0, 0, 0, 0, i, a.q⟩ rfl K6.out.at ?_)
                      refine HM1.out.mono ?_
                      rintro e w7 ⟨A2, c2, rfl, hc2, -, hR2, hb⟩
                      have X7 := Lib.hid (X6.out.below hb)
                      clear hb hR2 hc2 X6 K6 HM1 HMV HMA
                      dsimp only [List.length_nil]
                      have HRR := Lib.hid fun W hR => X7.out.right W hR
                      go_wp2_with fail
                      refine (HRR.out _ X7.out.row).mono ?_
                      rintro e w9 ⟨rfl, hb⟩
                      have X9 := Lib.hid (X7.out.below hb)
                      clear hb X7
                      go_wp2_with fail
                      go_roundw
                      case rel => exact ⟨k + 1, ss, nw, L, (some y1), c1, by go_num, by omega, rfl, rfl, by omega, by omega, X9⟩
                      case measure => simp [intOf]; omega
                  · by_cases hq : z.s = a.q
                    · have HMV := Lib.hid (HMY.out ⟨true, b, 0, 0, 0, 0, 0, 0, 0, i, a.q⟩ rfl rfl rfl hq)
                      have hqz : (a.q == z.s) = true := by simp [hq]
                      have HQ := Lib.hid hq
                      clear HMY HMN hq
                      as_aux_lemma =>
                        go_upto_region 42 with fail
                        go_quiet (fail)
                        have X6 := Lib.hid (X5a.out.drew nq)
                        have K6 := Lib.hid (K5a.out.drewN nq)
                        generalize W5.drewN nq = W6 at *
                        have HM1 := Lib.hid (HMA.out ⟨true, b, 0, 0, 0, 0, 0, 0, 0, i, a.q⟩ W6 X6.out.row)
                        rw [HMV.out.1, HMV.out.2] at HM1
                        unfold pkv at HM1
                        dsimp only at HM1
                        clear X5a K5a k0 k1 k9 k10
                        go_wp2_with (refine at_load44 (.tmp 18) rfl rfl _ ⟨true, b, 0, 0, 0, 0, 0, 0, 0, i, a.q⟩ rfl K6.out.at ?_)
                        refine HM1.out.mono ?_
                        rintro e w7 ⟨A2, c2, rfl, hc2, -, hR2, hb⟩
                        have X7 := Lib.hid (X6.out.below hb)
                        have RL7 := Lib.hid hR2
                        obtain ⟨L1, hL1⟩ : ∃ n, (del ss m).length = n := ⟨_, rfl⟩
                        have HLD := Lib.hid hL1
                        have hL2 : L1 + 1 = L := by rw [← hL1]; exact HDL.out
                        rw [hL1] at hc2 ⊢
                        have hwL : IntKind.i64.wrap ((L : Int) - 1) = (L1 : Int) := by rw [IntKind.wrap_i64]; omega
                        have hneL : ((L1 : Int) != (L : Int) - 1) = false := by simp; omega
                        have hmLL := HMS.out
                        have HSH := Lib.hid (fun W => run_sl29 (some y1) L c1 m (by have := X7.out.cap; omega) W)
                        have HSL := Lib.hid (fun W => run_sl29l (some y1) L c1 (m + 1) (by omega) X7.out.cap W)
                        have HWR := Lib.hid (show IntKind.i64.wrap ((m : Int) + 1) = (m : Int) + 1 by rw [IntKind.wrap_i64]; omega)
                        have HTL := Lib.hid (show (ss.take m).length = m by rw [List.length_take, X7.out.len]; omega)
                        have HDR := Lib.hid (show L - (m + 1) = (ss.drop (m + 1)).length by rw [List.length_drop, X7.out.len])
                        have HRD := Lib.hid (show ∀ W, Below w7.heap.size w7 W → Rw eP W (dA 5 (some y1) c1 (m + 1)) (ss.drop (m + 1)) from fun W hW => (X7.out.row.below hW).rest (by rw [X7.out.len]; exact X7.out.cap) _)
                        have HNR := Lib.hid (show ∀ W, Below w7.heap.size w7 W → ∃ v W', (Builtin.append_ #[29, 29] 29 #[.slice none 0 0, .slice (some y1) m c1]).run Try.prog W = .ok v W' ∧ Below W.heap.size W W' ∧ oF w7.heap.size (ss.take m) v W' from fun W hW => by
                          have := new_row W 29 w7.heap.size hW.size (some y1) (ss.take m) c1 ((X7.out.row.below hW).take m) (by rw [HTL.out]; omega)
                          rw [HTL.out] at this
                          exact this)
                        clear hb hR2 hc2 X6 K6 HM1 HMV HMA hL1
                        go_upto_region 47 with fail
                        refine wp_region_below_tail 8 [fx (.slice (some y1) L c1), fx (.int .i64 (m : Int)), fx (.slice (some y1) m c1), oF w7.heap.size (ss.take m), fx (.slice (some y1) L c1), fx (.int .i64 (m : Int)), fx (.int .i64 ((m + 1 : Nat) : Int)), fx (.slice (dA 5 (some y1) c1 (m + 1)) (L - (m + 1)) (c1 - (m + 1)))]
                          (by kernel_rfl) (by simp) (by kernel_rfl) (by kernel_rfl) (by kernel_rfl) ?_ ?_ ?_
                        · simp only [List.mem_cons, List.not_mem_nil, or_false]
                          rintro φ (rfl | rfl | rfl | rfl | rfl | rfl | rfl | rfl)
                          all_goals first | exact stable_fx _ | exact stable_fr _ _ | exact stable_oF _ _
                        · refine OgSteps.cons ?_ (OgSteps.cons ?_ (OgSteps.cons ?_ (OgSteps.cons ?_ (OgSteps.cons ?_ (OgSteps.cons ?_ (OgSteps.cons ?_ (OgSteps.cons ?_ (OgSteps.nil))))))))
                          · refine OgStep.pure ?_ ?_
                            · rfl
                            intro u W hS hp
                            refine ⟨.slice (some y1) L c1, ?_, rfl⟩
                            simp only [ogMk, Act.put, List.setIfInBounds_toArray, List.set_cons_zero, List.set_cons_succ, Nat.zero_add, Nat.reduceAdd, List.take_succ_cons, List.take_zero, List.drop_succ_cons, List.drop_zero]
                            simp [execOp, Act.eval, go_sem]
                          · refine OgStep.pure ?_ ?_
                            · rfl
                            intro u W hS hp
                            refine ⟨.int .i64 (m : Int), ?_, rfl⟩
                            simp only [ogMk, Act.put, List.setIfInBounds_toArray, List.set_cons_zero, List.set_cons_succ, Nat.zero_add, Nat.reduceAdd, List.take_succ_cons, List.take_zero, List.drop_succ_cons, List.drop_zero]
                            simp [execOp, Act.eval, go_sem]
                          · refine OgStep.pure ?_ ?_
                            · rfl
                            intro u W hS hp
                            have h0 : u 0 = .slice (some y1) L c1 := hp ⟨0, .data⟩ (by simp) rfl
                            have h1 : u 1 = .int .i64 (m : Int) := hp ⟨1, .data⟩ (by simp) rfl
                            have R := HSH.out W
                            refine ⟨.slice (some y1) m c1, ?_, rfl⟩
                            simp only [ogMk, Act.put, List.setIfInBounds_toArray, List.set_cons_zero, List.set_cons_succ, Nat.zero_add, Nat.reduceAdd, List.take_succ_cons, List.take_zero, List.drop_succ_cons, List.drop_zero]
                            simp [execOp, Act.eval, go_sem, h0, h1, R]
                          · refine OgStep.made ?_ ?_
                            · rfl
                            intro u W hS hp
                            have h2 : u 2 = .slice (some y1) m c1 := hp ⟨2, .data⟩ (by simp) rfl
                            obtain ⟨v1, W1, hr1, hb1, ho1⟩ := HNR.out W hS
                            refine ⟨v1, W1, exec_append (.const (.slice none 0 0)) (.tmp 229) rfl rfl ?_ hr1, hb1, ho1⟩
                            simp only [ogMk, Act.put, List.setIfInBounds_toArray, List.set_cons_zero, List.set_cons_succ, Nat.zero_add, Nat.reduceAdd, List.take_succ_cons, List.take_zero, List.drop_succ_cons, List.drop_zero]
                            simp [Act.eval, h2]
                          · refine OgStep.pure ?_ ?_
                            · rfl
                            intro u W hS hp
                            refine ⟨.slice (some y1) L c1, ?_, rfl⟩
                            simp only [ogMk, Act.put, List.setIfInBounds_toArray, List.set_cons_zero, List.set_cons_succ, Nat.zero_add, Nat.reduceAdd, List.take_succ_cons, List.take_zero, List.drop_succ_cons, List.drop_zero]
                            simp [execOp, Act.eval, go_sem]
                          · refine OgStep.pure ?_ ?_
                            · rfl
                            intro u W hS hp
                            refine ⟨.int .i64 (m : Int), ?_, rfl⟩
                            simp only [ogMk, Act.put, List.setIfInBounds_toArray, List.set_cons_zero, List.set_cons_succ, Nat.zero_add, Nat.reduceAdd, List.take_succ_cons, List.take_zero, List.drop_succ_cons, List.drop_zero]
                            simp [execOp, Act.eval, go_sem]
                          · refine OgStep.pure ?_ ?_
                            · rfl
                            intro u W hS hp
                            have h5 : u 5 = .int .i64 (m : Int) := hp ⟨5, .data⟩ (by simp) rfl
                            have R := HWR.out
                            refine ⟨.int .i64 ((m + 1 : Nat) : Int), ?_, rfl⟩
                            simp only [ogMk, Act.put, List.setIfInBounds_toArray, List.set_cons_zero, List.set_cons_succ, Nat.zero_add, Nat.reduceAdd, List.take_succ_cons, List.take_zero, List.drop_succ_cons, List.drop_zero]
                            simp [execOp, Act.eval, go_sem, h5, R]
                          · refine OgStep.pure ?_ ?_
                            · rfl
                            intro u W hS hp
                            have h4 : u 4 = .slice (some y1) L c1 := hp ⟨4, .data⟩ (by simp) rfl
                            have h6 : u 6 = .int .i64 ((m + 1 : Nat) : Int) := hp ⟨6, .data⟩ (by simp) rfl
                            have R := HSL.out W
                            rw [show ((m + 1 : Nat) : Int) = (m : Int) + 1 by omega] at R
                            refine ⟨.slice (dA 5 (some y1) c1 (m + 1)) (L - (m + 1)) (c1 - (m + 1)), ?_, rfl⟩
                            simp only [ogMk, Act.put, List.setIfInBounds_toArray, List.set_cons_zero, List.set_cons_succ, Nat.zero_add, Nat.reduceAdd, List.take_succ_cons, List.take_zero, List.drop_succ_cons, List.drop_zero]
                            simp [execOp, Act.eval, go_sem, h4, h6, R]
                        · intro u W hS hF'
                          have hF := hF'
                          have e0 : u 0 = .slice (some y1) L c1 := hF 0 (by decide)
                          have e1 : u 1 = .int .i64 (m : Int) := hF 1 (by decide)
                          have e2 : u 2 = .slice (some y1) m c1 := hF 2 (by decide)
                          have e4 : u 4 = .slice (some y1) L c1 := hF 4 (by decide)
                          have e5 : u 5 = .int .i64 (m : Int) := hF 5 (by decide)
                          have e6 : u 6 = .int .i64 ((m + 1 : Nat) : Int) := hF 6 (by decide)
                          have e7 : u 7 = .slice (dA 5 (some y1) c1 (m + 1)) (L - (m + 1)) (c1 - (m + 1)) := hF 7 (by decide)
                          simp only [ogMk, Act.put, List.setIfInBounds_toArray, List.set_cons_zero, List.set_cons_succ, Nat.zero_add, Nat.reduceAdd, List.take_succ_cons, List.take_zero, List.drop_succ_cons, List.drop_zero]
                          rw [e0, e1, e2, e4, e5, e6, e7]
                          clear e0 e1 e2 e4 e5 e6 e7 hF
                          have hF1 : oF w7.heap.size (ss.take m) (u 3) W := hF' 3 (by decide)
                          generalize hu1 : u 3 = v1 at *
                          have HO1 := Lib.hid hF1
                          have HS := Lib.hid hS
                          clear hF' hF1 hS hu1
                          refine wpList_append_rw tP W rfl (.tmp 230) (.tmp 234) rfl w7.heap.size v1 m (ss.take m) (by simp [Act.eval, Act.put]) (by have := HO1.out; unfold oF at this; rwa [HTL.out] at this) (dA 5 (some y1) c1 (m + 1)) (L - (m + 1)) (c1 - (m + 1)) (ss.drop (m + 1)) (by simp [Act.eval, Act.put]) HDR.out (HRD.out W HS.out) (by omega) HS.out.size ?_
                          intro v2 w8 ho2 hg2
                          have HB8 := Lib.hid (HS.out.grown hg2 HS.out.size (fun j hj => (HO1.out.lt j hj).1))
                          obtain ⟨A6, c6, rfl, hc6, -, -, hR6, -⟩ := own_rw (E := eP) (xs := del ss m) ho2 (by rw [HLD.out]; omega)
                          rw [HLD.out] at hc6 ⊢
                          have X8 := Lib.hid (X7.out.turn HDV.out HLD.out hc6 hR6 HB8.out)
                          have HSA := Lib.hid (same_any A2 A6 (del ss m) (del ss m) c2 c6 w8 (RL7.out.below HB8.out) hR6)
                          rw [decide_eq_true rfl, HLD.out] at HSA
                          clear ho2 hg2 hR6 HNR HO1 HS RL7 HB8 X7
                          go_wp2_with fail
                          refine HSA.out.mono ?_
                          rintro e w10 ⟨rfl, n3, rfl⟩
                          have X10 := Lib.hid (X8.out.drew n3)
                          clear X8 HSA
                          generalize w8.drewN n3 = W10 at *
                          have HRR := Lib.hid fun W hR => X10.out.right W hR
                          go_wp2_with fail
                          refine (HRR.out _ X10.out.row).mono ?_
                          rintro e w9 ⟨rfl, hb⟩
                          have X9 := Lib.hid (X10.out.below hb)
                          clear hb X10
                          go_wp2_with fail
                          go_roundw
                          case rel => exact ⟨k + 1, del ss m, nw, L1, A6, c6, by go_num, by omega, rfl, rfl, by omega, by omega, X9⟩
                          case measure => simp [intOf]; omega
                    · have HMV := Lib.hid (HMN.out ⟨true, b, 0, 0, 0, 0, 0, 0, 0, i, a.q⟩ rfl rfl (fun h => hq h.2))
                      have hqz : (a.q == z.s) = false := by simpa using fun h => hq h.symm
                      clear HMY HMN hq
                      as_aux_lemma =>
                        go_upto_region 42 with fail
                        go_quiet (fail)
                        have X6 := Lib.hid (X5a.out.drew nq)
                        have K6 := Lib.hid (K5a.out.drewN nq)
                        generalize W5.drewN nq = W6 at *
                        have HM1 := Lib.hid (HMA.out ⟨true, b, 0, 0, 0, 0, 0, 0, 0, i, a.q⟩ W6 X6.out.row)
                        rw [HMV.out.1, HMV.out.2] at HM1
                        unfold pkv at HM1
                        dsimp only at HM1
                        clear X5a K5a k0 k1 k9 k10
                        go_wp2_with (refine at_load44 (.tmp 18) rfl rfl _ ⟨true, b, 0, 0, 0, 0, 0, 0, 0, i, a.q⟩ rfl K6.out.at ?_)
                        refine HM1.out.mono ?_
                        rintro e w7 ⟨A2, c2, rfl, hc2, -, hR2, hb⟩
                        have X7 := Lib.hid (X6.out.below hb)
                        clear hb hR2 hc2 X6 K6 HM1 HMV HMA
                        dsimp only [List.length_nil]
                        have HRR := Lib.hid fun W hR => X7.out.right W hR
                        go_wp2_with fail
                        refine (HRR.out _ X7.out.row).mono ?_
                        rintro e w9 ⟨rfl, hb⟩
                        have X9 := Lib.hid (X7.out.below hb)
                        clear hb X7
                        go_wp2_with fail
                        go_roundw
                        case rel => exact ⟨k + 1, ss, nw, L, (some y1), c1, by go_num, by omega, rfl, rfl, by omega, by omega, X9⟩
                        case measure => simp [intOf]; omega
            · have e1 : (a.o % 4 == 1) = false := by simpa using h1
              obtain ⟨i, hi⟩ : ∃ i, b % 65536 = i := ⟨_, rfl⟩
              have hi0 : 0 ≤ i ∧ i < 65536 := by omega
              have hm : b.tmod 65536 = i := by rw [Int.tmod_eq_emod_of_nonneg b0]; exact hi
              have HOF := Lib.hid fun W => of_any b a.q nw W
              rw [show ofP b a.q nw = (⟨b, i, a.q, nw, 0⟩ : Pr) by unfold ofP; rw [hi, show a.q % 65536 = a.q by omega, cl_in (by omega) (by omega)]] at HOF
              have HRQ := Lib.hid (show rqB (⟨b, i, a.q, nw, 0⟩ : Pr) = true from rq_in hi.symm (by dsimp only; omega) (by dsimp only; omega) (by dsimp only; omega) (by dsimp only; omega) (by dsimp only; omega) (by dsimp only; omega))
              obtain ⟨hi0, hi1⟩ := hi0
              clear hi
              have HPU := Lib.hid fun W hR => put_any (⟨b, i, a.q, nw, 0⟩ : Pr) A1 ss c1 W hR (by rw [X4.out.len]; exact X4.out.cap) (by rw [X4.out.len]; omega)
              rw [X4.out.len] at HPU
              unfold prv at HOF HPU
              dsimp only at HOF HPU
              have X5a := Lib.hid (X4.out.below ((Below.refl _ wo).alloc (Nat.le_refl _) (Prx (⟨b, i, a.q, nw, 0⟩ : Pr))))
              have O5a := Lib.hid (O4.out.below ((Below.refl _ wo).alloc (Nat.le_refl _) (Prx (⟨b, i, a.q, nw, 0⟩ : Pr))))
              have Q5a := Lib.hid (qb_box wo (⟨b, i, a.q, nw, 0⟩ : Pr))
              unfold Prx at *
              dsimp only at X5a O5a Q5a
              go_upto_region 19 with fail
              generalize wo.alloc (.cells #[.int .u32 b, .int .i64 i, .int .i64 a.q, .int .i64 nw, .int .i64 0] 37) = W5 at *
              generalize wo.heap.size = bx at *
              clear t0 t1 t2 t3 X4 O4 hm
              obtain ⟨t0, t1, t2, t3⟩ := O5a.out
              have hPA := HPA.out
              unfold Pa at hPA
              rw [HFU.out] at hPA
              rcases hPA with ⟨rfl, hto⟩ | ⟨m, z, rfl, hmL, hz, hza⟩
              · by_cases h16 : 16 ≤ L
                · have h16' : (16 : Int) ≤ L := by omega
                  have ec : putC ss (⟨b, i, a.q, nw, 0⟩ : Pr) = 4 := by unfold putC; rw [if_neg (by rw [hto]; simp), if_pos (by rw [X5a.out.len]; exact h16)]
                  have er : putR ss (⟨b, i, a.q, nw, 0⟩ : Pr) = [] := by unfold putR; rw [ec]; rfl
                  rw [ec, er] at HPU
                  clear ec er hto
                  as_aux_lemma =>
                    go_wp2_with fail
                    refine (HOF.out _).mono ?_
                    rintro e w6 ⟨rfl, hb⟩
                    have X6 := Lib.hid (X5a.out.below hb)
                    have Q6 := Lib.hid (Q5a.out.below hb)
                    clear hb X5a Q5a O5a t0 t1 t2 t3
                    go_wp2_with fail
                    refine (HPU.out _ X6.out.row).mono ?_
                    rintro e w7 ⟨A2, c2, rfl, hc2, -, hR2, hb⟩
                    have X7 := Lib.hid (X6.out.below hb)
                    have Q7 := Lib.hid (Q6.out.below hb)
                    clear hb hR2 hc2 X6 Q6 Q7 HPU
                    dsimp only [List.length_nil]
                    have HRR := Lib.hid fun W hR => X7.out.right W hR
                    go_wp2_with fail
                    refine (HRR.out _ X7.out.row).mono ?_
                    rintro e w9 ⟨rfl, hb⟩
                    have X9 := Lib.hid (X7.out.below hb)
                    clear hb X7
                    go_wp2_with fail
                    go_roundw
                    case rel => exact ⟨k + 1, ss, nw, L, A1, c1, by go_num, by omega, rfl, rfl, by omega, by omega, X9⟩
                    case measure => simp [intOf]; omega
                · have h16' : decide ((16 : Int) ≤ L) = false := decide_eq_false (by omega)
                  have ec : putC ss (⟨b, i, a.q, nw, 0⟩ : Pr) = 0 := by unfold putC; rw [if_neg (by rw [hto]; simp), if_neg (by rw [X5a.out.len]; exact h16)]
                  have er : putR ss (⟨b, i, a.q, nw, 0⟩ : Pr) = ss ++ [(⟨b, i, a.q, nw, 0⟩ : Pr)] := by unfold putR; rw [ec]; rfl
                  rw [ec, er] at HPU
                  have HVN := Lib.hid (put_ok X5a.out.v HRQ.out b0 b1 ec)
                  clear ec er hto
                  go_wp2_with fail
                  refine (HOF.out _).mono ?_
                  rintro e w6 ⟨rfl, hb⟩
                  have X6 := Lib.hid (X5a.out.below hb)
                  have Q6 := Lib.hid (Q5a.out.below hb)
                  clear hb X5a Q5a O5a t0 t1 t2 t3
                  go_wp2_with fail
                  refine (HPU.out _ X6.out.row).mono ?_
                  rintro e w7 ⟨A2, c2, rfl, hc2, -, hR2, hb⟩
                  have X7 := Lib.hid (X6.out.below hb)
                  have Q7 := Lib.hid (Q6.out.below hb)
                  rw [List.length_append, X7.out.len] at hc2 ⊢
                  have RL7 := Lib.hid hR2
                  have HC2 := Lib.hid hc2
                  clear hb hR2 hc2 X6 Q6 HPU
                  dsimp only [List.length_cons, List.length_nil]
                  have HNR := Lib.hid (show ∀ W, Below w7.heap.size w7 W → ∃ v W', (Builtin.append_ #[29, 29] 29 #[.slice none 0 0, .slice A1 L c1]).run Try.prog W = .ok v W' ∧ Below W.heap.size W W' ∧ oF w7.heap.size ss v W' from fun W hW => by
                    have := new_row W 29 w7.heap.size hW.size A1 ss c1 (X7.out.row.below hW) (by rw [X7.out.len]; omega)
                    rw [X7.out.len] at this
                    exact this)
                  go_upto_region 28 with fail
                  as_aux_lemma =>
                    refine wp_region_below_tail 4 [fx (.slice A1 L c1), oF w7.heap.size ss, fx (.agg #[.int .u32 b, .int .i64 i, .int .i64 a.q, .int .i64 nw, .int .i64 0]), hF (⟨b, i, a.q, nw, 0⟩ : Pr)]
                      (by kernel_rfl) (by simp) (by kernel_rfl) (by kernel_rfl) (by kernel_rfl) ?_ ?_ ?_
                    · simp only [List.mem_cons, List.not_mem_nil, or_false]
                      rintro φ (rfl | rfl | rfl | rfl)
                      all_goals first | exact stable_fx _ | exact stable_fr _ _ | exact stable_oF _ _ | exact stable_hF _
                    · refine OgSteps.cons ?_ (OgSteps.cons ?_ (OgSteps.cons ?_ (OgSteps.cons ?_ (OgSteps.nil))))
                      · refine OgStep.pure ?_ ?_
                        · rfl
                        intro u W hS hp
                        refine ⟨.slice A1 L c1, ?_, rfl⟩
                        simp only [ogMk, Act.put, List.setIfInBounds_toArray, List.set_cons_zero, List.set_cons_succ, Nat.zero_add, Nat.reduceAdd, List.take_succ_cons, List.take_zero, List.drop_succ_cons, List.drop_zero]
                        simp [execOp, Act.eval, go_sem]
                      · refine OgStep.made ?_ ?_
                        · rfl
                        intro u W hS hp
                        have h0 : u 0 = .slice A1 L c1 := hp ⟨0, .data⟩ (by simp) rfl
                        obtain ⟨v1, W1, hr1, hb1, ho1⟩ := HNR.out W hS
                        refine ⟨v1, W1, exec_append (.const (.slice none 0 0)) (.tmp 98) rfl rfl ?_ hr1, hb1, ho1⟩
                        simp only [ogMk, Act.put, List.setIfInBounds_toArray, List.set_cons_zero, List.set_cons_succ, Nat.zero_add, Nat.reduceAdd, List.take_succ_cons, List.take_zero, List.drop_succ_cons, List.drop_zero]
                        simp [Act.eval, h0]
                      · refine OgStep.pure ?_ ?_
                        · rfl
                        intro u W hS hp
                        obtain ⟨R0, R1, R2, R3, R4⟩ := (Q7.out.below hS).c
                        dsimp only at R0 R1 R2 R3 R4
                        refine ⟨.agg #[.int .u32 b, .int .i64 i, .int .i64 a.q, .int .i64 nw, .int .i64 0], ?_, rfl⟩
                        simp only [ogMk, Act.put, List.setIfInBounds_toArray, List.set_cons_zero, List.set_cons_succ, Nat.zero_add, Nat.reduceAdd, List.take_succ_cons, List.take_zero, List.drop_succ_cons, List.drop_zero]
                        simp [execOp, Act.eval, go_sem, R0, R1, R2, R3, R4]
                      · refine OgStep.made ?_ ?_
                        · rfl
                        intro u W hS hp
                        have h2 : u 2 = .agg #[.int .u32 b, .int .i64 i, .int .i64 a.q, .int .i64 nw, .int .i64 0] := hp ⟨2, .data⟩ (by simp) rfl
                        refine ⟨.slice (some ⟨W.heap.size, 0, none⟩) 1 1, _, ?_, (Below.refl _ W).alloc (Nat.le_refl _) _, _, rfl, hs_box W (⟨b, i, a.q, nw, 0⟩ : Pr)⟩
                        simp only [ogMk, Act.put, List.setIfInBounds_toArray, List.set_cons_zero, List.set_cons_succ, Nat.zero_add, Nat.reduceAdd, List.take_succ_cons, List.take_zero, List.drop_succ_cons, List.drop_zero]
                        simp [execOp, Act.eval, go_sem, h2, Prx]
                    · intro u W hS hF'
                      have hF := hF'
                      have e0 : u 0 = .slice A1 L c1 := hF 0 (by decide)
                      have e2 : u 2 = .agg #[.int .u32 b, .int .i64 i, .int .i64 a.q, .int .i64 nw, .int .i64 0] := hF 2 (by decide)
                      simp only [ogMk, Act.put, List.setIfInBounds_toArray, List.set_cons_zero, List.set_cons_succ, Nat.zero_add, Nat.reduceAdd, List.take_succ_cons, List.take_zero, List.drop_succ_cons, List.drop_zero]
                      rw [e0, e2]
                      clear e0 e2 hF
                      have hF1 : oF w7.heap.size ss (u 1) W := hF' 1 (by decide)
                      obtain ⟨g3, e3, hR3⟩ : hF (⟨b, i, a.q, nw, 0⟩ : Pr) (u 3) W := hF' 3 (by decide)
                      generalize hu1 : u 1 = v1 at *
                      rw [e3]
                      have HO1 := Lib.hid hF1
                      have HS := Lib.hid hS
                      have HR3 := Lib.hid hR3
                      clear hF' hF1 hS hR3 e3 hu1
                      refine wpList_append_rw tP W rfl (.tmp 99) (.tmp 101) rfl w7.heap.size v1 L ss (by simp [Act.eval, Act.put]) (by rw [← X7.out.len]; exact HO1.out) (some ⟨g3, 0, none⟩) 1 1 [(⟨b, i, a.q, nw, 0⟩ : Pr)] (by simp [Act.eval, Act.put]) rfl HR3.out (by omega) HS.out.size ?_
                      intro v2 w8 ho2 hg2
                      have HB8 := Lib.hid (HS.out.grown hg2 HS.out.size (fun j hj => (HO1.out.lt j hj).1))
                      obtain ⟨A6, c6, rfl, hc6, -, -, hR6, -⟩ := own_rw (E := eP) ho2 (by rw [List.length_append, X7.out.len]; simp; omega)
                      have hl6 : (ss ++ [(⟨b, i, a.q, nw, 0⟩ : Pr)]).length = L + 1 := by rw [List.length_append, X7.out.len]; rfl
                      rw [hl6] at hc6 ⊢
                      have X8 := Lib.hid (X7.out.turn HVN.out hl6 hc6 hR6 HB8.out)
                      have HSA := Lib.hid (same_any A2 A6 (ss ++ [(⟨b, i, a.q, nw, 0⟩ : Pr)]) (ss ++ [(⟨b, i, a.q, nw, 0⟩ : Pr)]) c2 c6 w8 (RL7.out.below HB8.out) hR6)
                      rw [decide_eq_true rfl, hl6] at HSA
                      clear ho2 hg2 hR6 hl6 HNR HO1 HS HR3 RL7 HC2 HB8 X7 Q7
                      go_wp2_with fail
                      refine HSA.out.mono ?_
                      rintro e w10 ⟨rfl, n3, rfl⟩
                      have X10 := Lib.hid (X8.out.drew n3)
                      clear X8 HSA
                      generalize w8.drewN n3 = W10 at *
                      have HRR := Lib.hid fun W hR => X10.out.right W hR
                      go_wp2_with fail
                      refine (HRR.out _ X10.out.row).mono ?_
                      rintro e w9 ⟨rfl, hb⟩
                      have X9 := Lib.hid (X10.out.below hb)
                      clear hb X10
                      go_wp2_with fail
                      go_roundw
                      case rel => exact ⟨k + 1, ss ++ [(⟨b, i, a.q, nw, 0⟩ : Pr)], nw, L + 1, A6, c6, by go_num, by omega, rfl, rfl, by omega, by omega, X9⟩
                      case measure => simp [intOf]; omega
              · have hmi : (0 : Int) ≤ (m : Int) := by omega
                have ec : putC ss (⟨b, i, a.q, nw, 0⟩ : Pr) = 6 := by unfold putC; rw [if_pos (to_true.2 ⟨z, List.mem_of_getElem? hz, hza⟩)]
                have er : putR ss (⟨b, i, a.q, nw, 0⟩ : Pr) = [] := by unfold putR; rw [ec]; rfl
                rw [ec, er] at HPU
                clear ec er hz hza
                as_aux_lemma =>
                  go_wp2_with fail
                  refine (HOF.out _).mono ?_
                  rintro e w6 ⟨rfl, hb⟩
                  have X6 := Lib.hid (X5a.out.below hb)
                  have Q6 := Lib.hid (Q5a.out.below hb)
                  clear hb X5a Q5a O5a t0 t1 t2 t3
                  go_wp2_with fail
                  refine (HPU.out _ X6.out.row).mono ?_
                  rintro e w7 ⟨A2, c2, rfl, hc2, -, hR2, hb⟩
                  have X7 := Lib.hid (X6.out.below hb)
                  have Q7 := Lib.hid (Q6.out.below hb)
                  clear hb hR2 hc2 X6 Q6 Q7 HPU
                  dsimp only [List.length_nil]
                  have HRR := Lib.hid fun W hR => X7.out.right W hR
                  go_wp2_with fail
                  refine (HRR.out _ X7.out.row).mono ?_
                  rintro e w9 ⟨rfl, hb⟩
                  have X9 := Lib.hid (X7.out.below hb)
                  clear hb X7
                  go_wp2_with fail
                  go_roundw
                  case rel => exact ⟨k + 1, ss, nw, L, A1, c1, by go_num, by omega, rfl, rfl, by omega, by omega, X9⟩
                  case measure => simp [intOf]; omega
    · obtain rfl : N = k := by omega
      go_wp2_with fail
      go_ret
      exact ⟨rfl, HX.out.bel⟩
end Go.Proofs.Ytjjbkhelnmdfnaa
