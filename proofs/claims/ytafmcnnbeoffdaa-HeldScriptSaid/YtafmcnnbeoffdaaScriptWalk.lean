/-
  HeldScript, walked. Conditions: the row that came in has not more than its room.
-/
import Derived.Test.YtafmcnnbeoffdaaMp
set_option linter.unusedSimpArgs false
set_option linter.unusedVariables false
namespace Go.Proofs.Ytafmcnnbeoffdaa
open Go.RowKit

set_option maxRecDepth 100000 in
set_option maxHeartbeats 4000000 in
theorem heldScript_walk (A : Option Addr) (xs : List Ac) (cap : Nat) (w : World) (h : Ra w A xs) (hcap : xs.length ≤ cap) :
    Calls Try.prog 3 #[.slice A xs.length cap] w fun e w' => e = .returned (.bool true) ∧ Below w.heap.size w w' := by
  obtain ⟨L, hL⟩ : ∃ L : Nat, min (xs.length : Int) 150 = L := ⟨min xs.length 150, by omega⟩
  have hL150 : L ≤ 150 := by omega
  have hLz : L ≤ xs.length := by omega
  have hLc : (L : Int) ≤ cap := by omega
  have hz := h.1
  have R := Lib.hid h
  have HLz := Lib.hid hLz
  clear h
  have hmm := @run_makeMap Try.prog
  go_enter Try.func3, Try.ntmps3
  go_wp2_with fail
  refine (awake_any _).mono ?_
  rintro e w1 ⟨rfl, hb1⟩
  have S0 := Lib.hid (show Sx w w1.heap.size [] (.map []) 0 (w1.alloc (.map #[] 0)) from
    ⟨Srt.nil, fun x hx => (List.not_mem_nil hx).elim, by simp, Mp.nil, World.ownsMap_made w1 _ _ _, hb1.size, hb1.alloc hb1.size _⟩)
  clear hb1
  go_wp2_with fail
  generalize hW1 : w1.alloc (.map #[] 0) = W1 at *
  generalize w1.heap.size = b at *
  clear hW1 hmm hL
  go_loopw [3, 24] (fun v i wr => ∃ (k : Nat) (ys : List Hr) (A1 : Option Addr) (c1 : Nat) (D : DataW Value), i = .int .i64 k ∧ k ≤ L ∧ v = .slice A1 ys.length c1 ∧ ys.length ≤ 48 ∧ ys.length ≤ c1 ∧ Hid (c1 ≤ maxLen ∧ Sx w b ys D k wr ∧ Hs wr A1 ys)) (fun _ i _ => L - (intOf i).toNat)
  case atStart => exact ⟨0, [], none, 0, .map [], rfl, by omega, rfl, by simp, by simp, Lib.hid ⟨by unfold maxLen; omega, S0.out, Hs.nil _ _⟩⟩
  case round =>
    obtain ⟨k, ys, A1, c1, D, rfl, hk, rfl, hy48, hyc, HH⟩ := hrel
    by_cases hlt : k < L
    · obtain ⟨a, ha⟩ : ∃ a, xs[k]? = some a := ⟨_, List.getElem?_eq_getElem (by omega)⟩
      obtain ⟨hok, x, rfl, hc⟩ := (R.out.below HH.out.2.1.bel).2 k a ha
      have hc27 : ∀ j v, (ac a)[j]? = some v → wr.cell? ((x.add (k * 5)).add j) = some v := fun j v hv => by rw [Go.Deep.add_add]; exact hc j v hv
      have HHD := Lib.hid fun W => holder_any a W hok
      have HBX := Lib.hid (ac_box wr a)
      have HSH := Lib.hid (show sh a = if 0 < a.an.size ∧ a.mc % 4 = 0 then ⟨near a.ad, a.an, st0 a.mc, 0, 0, 0, 0, st5 a.mc⟩ else ⟨near a.ad, oT (a.ow % 8).toNat, st0 a.mc, 0, 0, 0, 0, st5 a.mc⟩ from rfl)
      have HSA := Lib.hid (sh_a a)
      have HSO := Lib.hid (sh_ok a hok)
      have HT0 := Lib.hid (show (oT (a.ow % 8).toNat).size ≤ 9223372036854775807 by rw [oT_size]; omega)
      have HAN := Lib.hid hok.2.2.2
      have hnn := near_in a.ad
      obtain ⟨YL, hYL⟩ : ∃ YL, ys.length = YL := ⟨_, rfl⟩
      have HYL := Lib.hid hYL
      rw [hYL] at hy48 hyc ⊢
      have hmc := hok.2.2.1
      obtain ⟨tk, ad, ow, mc, an⟩ := a
      dsimp only at hnn hmc HSH HSA HBX hc27 HT0 HAN
      unfold hd hv av at HHD
      dsimp only at HHD
      generalize sh ⟨tk, ad, ow, mc, an⟩ = G at *
      generalize near ad = na at *
      generalize oT (ow % 8).toNat = T0 at *
      generalize st0 mc = s0 at *
      generalize st5 mc = s5 at *
      clear ha hok hc hYL
      go_wp2_with (refine at_load27 _ rfl rfl _ _ rfl hc27 ?_)
      refine (HHD.out _).mono ?_
      rintro e w2 ⟨rfl, hb⟩
      have S2 := Lib.hid (HH.out.2.1.below (hx_below _ hb))
      have R2 := Lib.hid (HH.out.2.2.below (hx_below _ hb))
      have AB := Lib.hid (show ∀ j v, (ac ⟨tk, ad, ow, mc, an⟩)[j]? = some v → w2.cell? ⟨wr.heap.size, j, none⟩ = some v from fun j v hv => by rw [hb.cell (p := ⟨wr.heap.size, j, none⟩) (by simp)]; exact HBX.out j v hv)
      have q3 := AB.out 3 _ rfl
      have q4 := AB.out 4 _ rfl
      have z2 : wr.heap.size < w2.heap.size := by have := hb.size; simp at this; omega
      have HR := Lib.hid HH.out.1
      clear hb HHD hc27 HBX HH
      obtain ⟨C, hC⟩ : ∃ C : Bool, decide (0 < an.size ∧ mc % 4 = 0) = C := ⟨_, rfl⟩
      have HC := Lib.hid hC
      have HB3 := Lib.hid (show ∀ T : ByteArray, T.size ≤ 9223372036854775807 → Sx w b ys D k (w2.alloc (.cells #[.int .u32 na, .string T, .int .u8 s0, .int .u8 0, .int .u8 0, .int .u8 0, .int .u8 0, .int .u8 s5] 33)) ∧ Hs (w2.alloc (.cells #[.int .u32 na, .string T, .int .u8 s0, .int .u8 0, .int .u8 0, .int .u8 0, .int .u8 0, .int .u8 s5] 33)) A1 ys ∧
          (∀ j v, (ac ⟨tk, ad, ow, mc, an⟩)[j]? = some v → (w2.alloc (.cells #[.int .u32 na, .string T, .int .u8 s0, .int .u8 0, .int .u8 0, .int .u8 0, .int .u8 0, .int .u8 s5] 33)).cell? ⟨wr.heap.size, j, none⟩ = some v) ∧ Hs (w2.alloc (.cells #[.int .u32 na, .string T, .int .u8 s0, .int .u8 0, .int .u8 0, .int .u8 0, .int .u8 0, .int .u8 s5] 33)) (some ⟨w2.heap.size, 0, none⟩) [⟨na, T, s0, 0, 0, 0, 0, s5⟩] from fun T hT => by
        have BX2 : Below w2.heap.size w2 (w2.alloc (.cells #[.int .u32 na, .string T, .int .u8 s0, .int .u8 0, .int .u8 0, .int .u8 0, .int .u8 0, .int .u8 s5] 33)) := (Below.refl _ w2).alloc (Nat.le_refl _) _
        exact ⟨S2.out.below BX2, R2.out.below BX2, fun j v hv => by rw [BX2.cell (p := ⟨wr.heap.size, j, none⟩) z2]; exact AB.out j v hv, hs_box w2 ⟨na, T, s0, 0, 0, 0, 0, s5⟩ ⟨hnn.1, hnn.2, hT⟩⟩)
      clear hC
      go_upto_region 9 with fail
      go_cut [39] from 30 to 39 (fun v wq => v = .bool C ∧ wq = w2.alloc (.cells #[.int .u32 na, .string T0, .int .u8 s0, .int .u8 0, .int .u8 0, .int .u8 0, .int .u8 0, .int .u8 s5] 33))
      case first =>
        by_cases h1 : 0 < an.size
        · by_cases h2 : mc % 4 = 0
          · have HE := Lib.hid (show C = true by rw [← HC.out]; exact decide_eq_true ⟨h1, h2⟩)
            go_wp2_with fail
            go_meet
            exact ⟨by rw [HE.out], rfl⟩
          · have HE := Lib.hid (show C = false by rw [← HC.out]; exact decide_eq_false fun h => h2 h.2)
            have h2b : (mc % 4 == 0) = false := by simpa using h2
            go_wp2_with fail
            go_meet
            exact ⟨by rw [HE.out], rfl⟩
        · have HE := Lib.hid (show C = false by rw [← HC.out]; exact decide_eq_false fun h => h1 h.1)
          go_wp2_with fail
          go_meet
          exact ⟨by rw [HE.out], rfl⟩
      case rest =>
        obtain ⟨rfl, rfl⟩ := hcut
        have k4 : (w2.alloc (.cells #[.int .u32 na, .string T0, .int .u8 s0, .int .u8 0, .int .u8 0, .int .u8 0, .int .u8 0, .int .u8 s5] 33)).cell? ⟨wr.heap.size, 4, none⟩ = some (.string an) := (HB3.out T0 HT0.out).2.2.1 4 _ rfl
        clear q3 q4
        go_upto_if 39 with fail
        go_cut [] from 40 to 122 (fun wq => Hid (Sx w b ys D k wq ∧ Hs wq A1 ys ∧ (∀ j v, (ac ⟨tk, ad, ow, mc, an⟩)[j]? = some v → wq.cell? ⟨wr.heap.size, j, none⟩ = some v) ∧ Hs wq (some ⟨w2.heap.size, 0, none⟩) [G]))
        case first =>
          cases C
          · have HG := Lib.hid (show G = ⟨na, T0, s0, 0, 0, 0, 0, s5⟩ by rw [HSH.out, if_neg (of_decide_eq_false HC.out)])
            go_wp2_with fail
            go_meet
            exact Lib.hid (by rw [HG.out]; exact HB3.out T0 HT0.out)
          · have HG := Lib.hid (show G = ⟨na, an, s0, 0, 0, 0, 0, s5⟩ by rw [HSH.out, if_pos (of_decide_eq_true HC.out)])
            go_wp2_with fail
            go_meet
            exact Lib.hid (by rw [HG.out]; exact HB3.out an HAN.out)
        case rest =>
          have HQ := Lib.hid hcut.out
          clear hcut HB3 HC HSH k4 S2 R2 AB
          obtain ⟨w4, rfl⟩ : ∃ w4 : World, w4 = wc := ⟨_, rfl⟩
          generalize wr.heap.size = pa at *
          generalize w2.heap.size = ph at *
          obtain ⟨ga, gT, g0, g1, g2, g3, g4, g5⟩ := G
          obtain rfl : ga = na := HSA.out
          obtain ⟨c0, _, _, _, _, _, _, _⟩ := hs_c8 HQ.out.2.2.2
          dsimp only at c0
          have HGT := Lib.hid fun W (hW : Hs W A1 ys) => get_any ga A1 ys c1 W hW (by rw [HYL.out]; exact hyc) hnn.1 hnn.2
          have HTK := Lib.hid fun W (hW : Hs W A1 ys) => take_any ga A1 ys c1 W hW (by rw [HYL.out]; exact hyc) (by rw [HYL.out]; omega) hnn.1 hnn.2
          have HPT := Lib.hid fun W (hW : Hs W A1 ys) => put_any ⟨ga, gT, g0, g1, g2, g3, g4, g5⟩ A1 ys c1 W HSO.out hW (by rw [HYL.out]; exact hyc) (by rw [HYL.out]; omega)
          have HMY := Lib.hid fun W => may14_any gT W HSO.out.2.2
          have hPC : putC ys ⟨ga, gT, g0, g1, g2, g3, g4, g5⟩ = if mayB gT = false then 12 else if isAt ys ga = true then 6 else if 48 ≤ ys.length then 4 else 0 := rfl
          have hTC : takeC ys ga = if isAt ys ga = true then 0 else 7 := rfl
          rw [HYL.out] at HGT HTK HPT hPC
          obtain ⟨GW, hGW⟩ : ∃ GW, gt ys ga = GW := ⟨_, rfl⟩
          have HGW := Lib.hid hGW
          rw [hGW] at HGT
          obtain ⟨B, hB⟩ : ∃ B, isAt ys ga = B := ⟨_, rfl⟩
          have HBB := Lib.hid hB
          rw [hB] at HGT hPC hTC
          have HPC := Lib.hid hPC
          have HTC := Lib.hid hTC
          clear hGW hB hPC hTC
          obtain ⟨la, lT, l0, l1, l2, l3, l4, l5⟩ := GW
          simp only [hv] at HGT HPT
          have hown := HQ.out.1.own
          have hmp := HQ.out.1.mp
          have BX4 : Below w4.heap.size w4 (w4.alloc (.cells #[.int .u32 la, .string lT, .int .u8 l0, .int .u8 l1, .int .u8 l2, .int .u8 l3, .int .u8 l4, .int .u8 l5] 33)) := (Below.refl _ w4).alloc (Nat.le_refl _) _
          have R4 := Lib.hid (HQ.out.2.1.below BX4)
          have z4 := World.block_lt_of_cell? _ _ c0
          dsimp only at z4
          have z4' : ph ≠ w4.heap.size := by omega
          have q40 := HQ.out.2.2.1 0 _ rfl
          have za := World.block_lt_of_cell? _ _ q40
          dsimp only at za
          clear BX4 q40
          go_wp2_with (at_lookup; refine at_look25 (.tmp 44) (.tmp 46) rfl rfl b k D ys hown hmp ga hnn.1 hnn.2 ⟨la, lT, l0, l1, l2, l3, l4, l5⟩ B HGW.out HBB.out rfl rfl ?_)
          refine (HGT.out _ R4.out).mono ?_
          rintro e w5 ⟨rfl, hb⟩
          have B5 := Lib.hid (hx_below _ hb)
          obtain ⟨hc5, hf5⟩ := bcell hb
          have z5 : w4.heap.size < w5.heap.size := by have := hb.size; simp at this; omega
          have B6 := Lib.hid (B5.out.alloc B5.out.size (.cells #[.int .u32 la, .string lT, .int .u8 l0, .int .u8 l1, .int .u8 l2, .int .u8 l3, .int .u8 l4, .int .u8 l5] 33))
          have q60 : (w5.alloc (.cells #[.int .u32 la, .string lT, .int .u8 l0, .int .u8 l1, .int .u8 l2, .int .u8 l3, .int .u8 l4, .int .u8 l5] 33)).cell? ⟨pa, 0, none⟩ = some (.bool tk) := by rw [B6.out.cell (p := ⟨pa, 0, none⟩) za]; exact HQ.out.2.2.1 0 _ rfl
          clear hb hown hmp R4
          go_upto_if 66 with (refine at_same33 (.tmp 57) (.tmp 58) ⟨la, lT, l0, l1, l2, l3, l4, l5⟩ rfl rfl rfl rfl ?_)
          have S6 := Lib.hid (HQ.out.1.below B6.out)
          have R6 := Lib.hid (HQ.out.2.1.below B6.out)
          have G6 := Lib.hid (HQ.out.2.2.2.below B6.out)
          clear HQ hc5 hf5 B5 z5 q60 c0 z4 z4' za
          generalize w5.alloc (.cells #[.int .u32 la, .string lT, .int .u8 l0, .int .u8 l1, .int .u8 l2, .int .u8 l3, .int .u8 l4, .int .u8 l5] 33) = W6 at *
          clear B6 HGT HGW
          obtain ⟨c0, c1', c2, c3, c4, c5, c6, c7⟩ := hs_c8 G6.out
          dsimp only at c0 c1' c2 c3 c4 c5 c6 c7
          have zp := World.block_lt_of_cell? _ _ c0
          dsimp only at zp
          go_cut [12, 13, 14] from 65 to 122 (fun u v e wq => ∃ (q : Int) (A' : Option Addr) (c' N : Nat), u = .int .i64 q ∧ e = .int .i64 q ∧ v = .slice A' N c' ∧ Hid (∃ ys' D', (q = 0 → N = ys'.length ∧ N ≤ c' ∧ c' ≤ maxLen ∧ Hs wq A' ys') ∧ (q ≠ 0 → N = 0 ∧ ys' = ys ∧ Hs wq A1 ys) ∧ Sx w b ys' D' (k + 1) wq))
          case first =>
            cases tk
            · cases hY : mayB gT
              · rw [hY] at HMY HPC
                have hT : putC ys ⟨ga, gT, g0, g1, g2, g3, g4, g5⟩ = 12 ∧ putR ys ⟨ga, gT, g0, g1, g2, g3, g4, g5⟩ = [] := by
                  have h1 : putC ys ⟨ga, gT, g0, g1, g2, g3, g4, g5⟩ = 12 := by rw [HPC.out]; simp
                  exact ⟨h1, by unfold putR; rw [h1]; rfl⟩
                rw [hT.1, hT.2] at HPT
                clear hT
                as_aux_lemma =>
                go_wp2_with fail
                refine (HPT.out _ R6.out).mono ?_
                rintro e w7 ⟨A7, c7', rfl, hc7, _, hH7, hb⟩
                have S7 := Lib.hid (S6.out.below hb)
                have R7 := Lib.hid (R6.out.below hb)
                have d1 : w7.cell? ⟨ph, 1, none⟩ = some (.string gT) := by rw [hb.cell (p := ⟨ph, 1, none⟩) zp]; exact c1'
                have hown := S7.out.own
                have hmp := S7.out.mp
                clear hb hH7
                simp only [List.length_nil]
                go_wp2_with fail
                refine (HMY.out _).mono ?_
                rintro e w8 ⟨rfl, hw8⟩
                subst hw8
                go_wp2_with (at_len; refine at_len25 (.tmp 90) rfl rfl b k D ys hown hmp YL HYL.out rfl ?_)
                go_meet
                exact ⟨12, A7, c7', 0, rfl, rfl, rfl, Lib.hid ⟨ys, D, fun h => absurd h (by decide), fun _ => ⟨rfl, rfl, R7.out⟩, S7.out.more⟩⟩
              · rw [hY] at HMY HPC
                cases B
                · by_cases h48 : 48 ≤ YL
                  · have h48' : (48 : Int) ≤ YL := by omega
                    have hT : putC ys ⟨ga, gT, g0, g1, g2, g3, g4, g5⟩ = 4 ∧ putR ys ⟨ga, gT, g0, g1, g2, g3, g4, g5⟩ = [] := by
                      have h1 : putC ys ⟨ga, gT, g0, g1, g2, g3, g4, g5⟩ = 4 := by rw [HPC.out]; simp [h48]
                      exact ⟨h1, by unfold putR; rw [h1]; rfl⟩
                    rw [hT.1, hT.2] at HPT
                    clear hT
                    as_aux_lemma =>
                    go_wp2_with fail
                    refine (HPT.out _ R6.out).mono ?_
                    rintro e w7 ⟨A7, c7', rfl, hc7, _, hH7, hb⟩
                    have S7 := Lib.hid (S6.out.below hb)
                    have R7 := Lib.hid (R6.out.below hb)
                    have d1 : w7.cell? ⟨ph, 1, none⟩ = some (.string gT) := by rw [hb.cell (p := ⟨ph, 1, none⟩) zp]; exact c1'
                    have hown := S7.out.own
                    have hmp := S7.out.mp
                    clear hb hH7
                    simp only [List.length_nil]
                    go_wp2_with fail
                    refine (HMY.out _).mono ?_
                    rintro e w8 ⟨rfl, hw8⟩
                    subst hw8
                    go_wp2_with (at_len; refine at_len25 (.tmp 90) rfl rfl b k D ys hown hmp YL HYL.out rfl ?_)
                    go_meet
                    exact ⟨4, A7, c7', 0, rfl, rfl, rfl, Lib.hid ⟨ys, D, fun h => absurd h (by decide), fun _ => ⟨rfl, rfl, R7.out⟩, S7.out.more⟩⟩
                  · have h48' : ¬ (48 : Int) ≤ YL := by omega
                    have hT : putC ys ⟨ga, gT, g0, g1, g2, g3, g4, g5⟩ = 0 ∧ putR ys ⟨ga, gT, g0, g1, g2, g3, g4, g5⟩ = ins ys ⟨ga, gT, g0, g1, g2, g3, g4, g5⟩ := by
                      have h1 : putC ys ⟨ga, gT, g0, g1, g2, g3, g4, g5⟩ = 0 := by rw [HPC.out]; simp; omega
                      exact ⟨h1, by unfold putR; rw [h1]; rfl⟩
                    have HT := Lib.hid hT.1
                    rw [hT.1, hT.2] at HPT
                    clear hT
                    as_aux_lemma =>
                    go_wp2_with fail
                    refine (HPT.out _ R6.out).mono ?_
                    rintro e w7 ⟨A7, c7', rfl, hc7, hm7, hH7, hb⟩
                    have S7 := Lib.hid (S6.out.below hb)
                    have R7 := Lib.hid hH7
                    have HM7 := Lib.hid hm7
                    have d0 : w7.cell? ⟨ph, 0, none⟩ = some (.int .u32 ga) := by rw [hb.cell (p := ⟨ph, 0, none⟩) zp]; exact c0
                    have d1 : w7.cell? ⟨ph, 1, none⟩ = some (.string gT) := by rw [hb.cell (p := ⟨ph, 1, none⟩) zp]; exact c1'
                    have d2 : w7.cell? ⟨ph, 2, none⟩ = some (.int .u8 g0) := by rw [hb.cell (p := ⟨ph, 2, none⟩) zp]; exact c2
                    have d3 : w7.cell? ⟨ph, 3, none⟩ = some (.int .u8 g1) := by rw [hb.cell (p := ⟨ph, 3, none⟩) zp]; exact c3
                    have d4 : w7.cell? ⟨ph, 4, none⟩ = some (.int .u8 g2) := by rw [hb.cell (p := ⟨ph, 4, none⟩) zp]; exact c4
                    have d5 : w7.cell? ⟨ph, 5, none⟩ = some (.int .u8 g3) := by rw [hb.cell (p := ⟨ph, 5, none⟩) zp]; exact c5
                    have d6 : w7.cell? ⟨ph, 6, none⟩ = some (.int .u8 g4) := by rw [hb.cell (p := ⟨ph, 6, none⟩) zp]; exact c6
                    have d7 : w7.cell? ⟨ph, 7, none⟩ = some (.int .u8 g5) := by rw [hb.cell (p := ⟨ph, 7, none⟩) zp]; exact c7
                    have hown := S7.out.own
                    have hmp := S7.out.mp
                    clear hb hH7 hm7
                    go_wp2_with fail
                    refine (HMY.out _).mono ?_
                    rintro e w8 ⟨rfl, hw8⟩
                    subst hw8
                    go_wp2_with (first | (at_len; refine at_len25 (.tmp 90) rfl rfl b k D ys hown hmp YL HYL.out rfl ?_) | (refine at_upd25 (.tmp 93) (.tmp 95) (.tmp 96) rfl rfl b k (by omega) D hown ga ⟨ga, gT, g0, g1, g2, g3, g4, g5⟩ hnn.1 hnn.2 rfl rfl rfl ?_))
                    intro w9 ho9 ht9
                    have S9 := Lib.hid (S7.out.put HT.out ho9 ht9)
                    have R9 := Lib.hid (R7.out.turned ht9)
                    clear ho9 ht9 hown hmp
                    go_wp2_with fail
                    go_meet
                    exact ⟨0, A7, c7', _, rfl, rfl, rfl, Lib.hid ⟨ins ys ⟨ga, gT, g0, g1, g2, g3, g4, g5⟩, _, fun _ => ⟨rfl, hc7, HM7.out, R9.out⟩, fun h => absurd rfl h, S9.out⟩⟩
                · skip
                  have hT : putC ys ⟨ga, gT, g0, g1, g2, g3, g4, g5⟩ = 6 ∧ putR ys ⟨ga, gT, g0, g1, g2, g3, g4, g5⟩ = [] := by
                    have h1 : putC ys ⟨ga, gT, g0, g1, g2, g3, g4, g5⟩ = 6 := by rw [HPC.out]; simp
                    exact ⟨h1, by unfold putR; rw [h1]; rfl⟩
                  rw [hT.1, hT.2] at HPT
                  clear hT
                  as_aux_lemma =>
                  go_wp2_with fail
                  refine (HPT.out _ R6.out).mono ?_
                  rintro e w7 ⟨A7, c7', rfl, hc7, _, hH7, hb⟩
                  have S7 := Lib.hid (S6.out.below hb)
                  have R7 := Lib.hid (R6.out.below hb)
                  have d1 : w7.cell? ⟨ph, 1, none⟩ = some (.string gT) := by rw [hb.cell (p := ⟨ph, 1, none⟩) zp]; exact c1'
                  have hown := S7.out.own
                  have hmp := S7.out.mp
                  clear hb hH7
                  simp only [List.length_nil]
                  go_wp2_with fail
                  refine (HMY.out _).mono ?_
                  rintro e w8 ⟨rfl, hw8⟩
                  subst hw8
                  go_wp2_with (at_len; refine at_len25 (.tmp 90) rfl rfl b k D ys hown hmp YL HYL.out rfl ?_)
                  go_meet
                  exact ⟨6, A7, c7', 0, rfl, rfl, rfl, Lib.hid ⟨ys, D, fun h => absurd h (by decide), fun _ => ⟨rfl, rfl, R7.out⟩, S7.out.more⟩⟩
            · cases B
              · have hT : takeC ys ga = 7 ∧ takeR ys ga = [] := by
                  have h1 := HTC.out
                  rw [if_neg (by simp)] at h1
                  exact ⟨h1, by unfold takeR; rw [HBB.out]; simp⟩
                rw [hT.1, hT.2] at HTK
                clear hT
                go_wp2_with fail
                refine (HTK.out _ R6.out).mono ?_
                rintro e w7 ⟨A7, c7', rfl, hc7, _, hH7, hb⟩
                have S7 := Lib.hid (S6.out.below hb)
                have R7 := Lib.hid (R6.out.below hb)
                clear hb hH7
                simp only [List.length_nil]
                go_wp2_with fail
                go_meet
                exact ⟨7, A7, c7', 0, rfl, rfl, rfl, Lib.hid ⟨ys, D, fun h => absurd h (by decide), fun _ => ⟨rfl, rfl, R7.out⟩, S7.out.more⟩⟩
              · have hT : takeC ys ga = 0 ∧ takeR ys ga = del ys ga := by
                  have h1 := HTC.out
                  rw [if_pos rfl] at h1
                  exact ⟨h1, by unfold takeR; rw [HBB.out]; simp⟩
                rw [hT.1, hT.2] at HTK
                clear hT
                go_wp2_with fail
                refine (HTK.out _ R6.out).mono ?_
                rintro e w7 ⟨A7, c7', rfl, hc7, hm7, hH7, hb⟩
                have S7 := Lib.hid (S6.out.below hb)
                have R7 := Lib.hid hH7
                have HM7 := Lib.hid hm7
                have d0 : w7.cell? ⟨ph, 0, none⟩ = some (.int .u32 ga) := by rw [hb.cell (p := ⟨ph, 0, none⟩) zp]; exact c0
                have hown := S7.out.own
                clear hb hH7 hm7
                go_wp2_with (at_delete; refine at_del25 (.tmp 76) (.tmp 78) rfl rfl b k D hown ga hnn.1 hnn.2 rfl rfl ?_)
                intro w8 ho8 ht8
                have S8 := Lib.hid (S7.out.del HBB.out ho8 ht8)
                have R8 := Lib.hid (R7.out.turned ht8)
                clear ho8 ht8 hown
                go_wp2_with fail
                go_meet
                exact ⟨0, A7, c7', _, rfl, rfl, rfl, Lib.hid ⟨del ys ga, _, fun _ => ⟨rfl, hc7, HM7.out, R8.out⟩, fun h => absurd rfl h, S8.out⟩⟩
          case rest =>
            obtain ⟨q, A', c', N, rfl, rfl, rfl, HX⟩ := hcut
            obtain ⟨ys', D', h1, h2, hS⟩ := HX.out
            clear HX S6 R6 G6 HPT HTK HMY HPC HTC c0 c1' c2 c3 c4 c5 c6 c7 zp
            have hown := hS.own
            have hmp := hS.mp
            by_cases hq : q = 0
            · subst hq
              obtain ⟨hN, hNc, hcm, hH⟩ := h1 rfl
              have HRT := Lib.hid (right15_any A' ys' c' wc hH (by rw [← hN]; exact hNc))
              rw [hS.srt.right hS.may hS.le, ← hN] at HRT
              have HHH := Lib.hid hH
              have HSS := Lib.hid hS
              have HNN := Lib.hid hN
              have HCM := Lib.hid hcm
              have hN48 : N ≤ 48 := by rw [hN]; exact hS.le
              clear h1 h2 hS hH hN hcm
              go_wp2_with (at_len; refine at_len25 (.tmp 114) rfl rfl b (k + 1) D' ys' hown hmp N HNN.out.symm rfl ?_)
              refine HRT.out.mono ?_
              rintro e w8 ⟨rfl, hb⟩
              have S8 := Lib.hid (HSS.out.below hb)
              have R8 := Lib.hid (HHH.out.below hb)
              clear hb hown hmp
              go_wp2_with fail
              go_roundw
              case rel => exact ⟨k + 1, ys', A', c', D', by go_num, by omega, by rw [HNN.out], by rw [← HNN.out]; exact hN48, by rw [← HNN.out]; exact hNc, Lib.hid ⟨HCM.out, S8.out, R8.out⟩⟩
              case measure => simp [intOf]; omega
            · obtain ⟨hN, hys, hH⟩ := h2 hq
              subst hN hys
              have HRT := Lib.hid (right15_any A1 ys' c1 wc hH (by rw [HYL.out]; exact hyc))
              rw [hS.srt.right hS.may hS.le, HYL.out] at HRT
              have HHH := Lib.hid hH
              have HSS := Lib.hid hS
              have hq1 : (q == 0) = false := by simpa using hq
              have hq2 : (q != 0) = true := by simpa using hq
              clear h1 h2 hS hH hq
              go_wp2_with (at_len; refine at_len25 (.tmp 114) rfl rfl b (k + 1) D' ys' hown hmp YL HYL.out rfl ?_)
              refine HRT.out.mono ?_
              rintro e w8 ⟨rfl, hb⟩
              have S8 := Lib.hid (HSS.out.below hb)
              have R8 := Lib.hid (HHH.out.below hb)
              clear hb hown hmp
              go_wp2_with fail
              go_roundw
              case rel => exact ⟨k + 1, ys', A1, c1, D', by go_num, by omega, by rw [HYL.out], by rw [HYL.out]; exact hy48, by rw [HYL.out]; exact hyc, Lib.hid ⟨HR.out, S8.out, R8.out⟩⟩
              case measure => simp [intOf]; omega
    · obtain rfl : k = L := by omega
      go_wp2_with fail
      go_ret
      exact ⟨rfl, HH.out.2.1.bel⟩
end Go.Proofs.Ytafmcnnbeoffdaa
