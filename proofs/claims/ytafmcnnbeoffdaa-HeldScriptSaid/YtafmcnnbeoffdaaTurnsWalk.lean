/-
  HeldTurns, walked. Conditions: the row that came in has not more than its room.
-/
import Derived.Test.YtafmcnnbeoffdaaNextWalk
set_option linter.unusedSimpArgs false
set_option linter.unusedVariables false
namespace Go.Proofs.Ytafmcnnbeoffdaa
open Go.RowKit

/-- The worlds that a region may be in that only reads, and makes memory. -/
def Rg (w W : World) : Prop := ∃ p : Regrown, W = Sort.grow (redrawn w p.d) p.os
theorem below_rg {w W : World} (h : Rg w W) : Below w.heap.size w W := by
  obtain ⟨p, rfl⟩ := h
  exact below_regrown w p.d p.os
theorem quiet_same33 {ops : Array Oper} {rest : List Oper} {o : Oper} {a : Act} {C : World → Prop} {Q : Act → Prop} (x y : Operand) (p : Hr) (hw : Region.wanted o (yielded ops a.tmps) = true) (ho : o.op = .binOp .neq 33 x y 33) (hx : a.eval x = hv p) (hy : a.eval y = hv p) (h : wpQuiet Try.prog ops C Q rest (a.put o.dst (.bool false))) : wpQuiet Try.prog ops C Q (o :: rest) a :=
  quiet_neq33 x y p p hw ho hx hy (by rw [eqh_self]; exact h)
theorem hs_at {W : World} {b : Nat} {x : Hr} (h : Hs W (some ⟨b, 0, none⟩) [x]) : ∀ j v, (hl x)[j]? = some v → W.cell? ((⟨b, 0, none⟩ : Addr).add j) = some v := by
  intro j v hv
  have := h.at (q := 0) (x := x) rfl j v hv
  rwa [show (0 * 8 : Nat) = 0 from rfl, show (⟨b, 0, none⟩ : Addr).add 0 = ⟨b, 0, none⟩ from rfl] at this
theorem new_may : mayB ⟨#[110, 101, 119]⟩ = true := by decide

set_option maxRecDepth 100000 in
set_option maxHeartbeats 4000000 in
theorem heldTurns_walk (A : Option Addr) (xs : List Ac) (cap : Nat) (p : Int) (w : World) (h : Ra w A xs) (hcap : xs.length ≤ cap) (p0 : 0 ≤ p) (p1 : p < 256) :
    Calls Try.prog 7 #[.slice A xs.length cap, .int .u8 p] w fun e w' => e = .returned (.bool true) ∧ Below w.heap.size w w' := by
  have hnn := near_in p
  have HN := Lib.hid fun W => near_any p W p0 p1
  generalize near p = na at *
  have HGD := Lib.hid (SM_good xs h.oks (min xs.length 60))
  have HSO := Lib.hid fun W (hW : Below w.heap.size w W) => some_any A xs cap W (h.below hW) hcap
  generalize SM xs (min xs.length 60) = ys at *
  have hy48 := HGD.out.2.2
  have HPT := Lib.hid fun A2 c2 W (hW : Hs W A2 ys) (hc : ys.length ≤ c2) => put_any ⟨na, ⟨#[110, 101, 119]⟩, 0, 0, 0, 0, 0, 0⟩ A2 ys c2 W ⟨hnn.1, hnn.2, by show (3 : Nat) ≤ _; omega⟩ hW hc (by omega)
  have HGT := Lib.hid fun A2 c2 W (hW : Hs W A2 ys) (hc : ys.length ≤ c2) => get_any na A2 ys c2 W hW hc hnn.1 hnn.2
  have hC : putC ys ⟨na, ⟨#[110, 101, 119]⟩, 0, 0, 0, 0, 0, 0⟩ = if isAt ys na = true then 6 else if 48 ≤ ys.length then 4 else 0 := by
    unfold putC
    rw [if_neg (by show ¬ mayB ⟨#[110, 101, 119]⟩ = false; rw [new_may]; simp)]
  obtain ⟨YL, hYL⟩ : ∃ YL, ys.length = YL := ⟨_, rfl⟩
  have HYL := Lib.hid hYL
  rw [hYL] at hy48 HPT HGT hC
  clear h hYL
  simp only [hv] at HPT
  cases hi : isAt ys na
  · have hgz := isAt_none hi
    rw [hi] at hC
    by_cases h48 : 48 ≤ YL
    · obtain rfl : YL = 48 := by omega
      have hC4 : putC ys ⟨na, ⟨#[110, 101, 119]⟩, 0, 0, 0, 0, 0, 0⟩ = 4 := by simpa using hC
      have hR4 : putR ys ⟨na, ⟨#[110, 101, 119]⟩, 0, 0, 0, 0, 0, 0⟩ = [] := by simp [putR, hC4]
      rw [hC4, hR4] at HPT
      rw [hi, hgz] at HGT
      simp only [List.length_nil, hv, zh] at HPT HGT
      clear hC hC4 hR4 hgz hi
      go_enter Try.func7, Try.ntmps7
      go_wp2_with fail
      refine (awake_any _).mono ?_
      rintro e w1 ⟨rfl, hb1⟩
      have B1 := Lib.hid hb1
      clear hb1
      go_wp2_with fail
      refine (HSO.out _ B1.out).mono ?_
      rintro e w2 ⟨A2, c2, rfl, hc2, _, hH2, hb2⟩
      have B2 := Lib.hid (B1.out.trans (hb2.mono B1.out.size))
      have R2 := Lib.hid hH2
      rw [HYL.out] at hc2 ⊢
      clear hb2 hH2 HSO B1
      go_wp2_with fail
      refine (HN.out _).mono ?_
      rintro e w3 ⟨rfl, rfl⟩
      have R3 := Lib.hid (R2.out.below ((Below.refl _ w3).alloc (Nat.le_refl _) (Hx ⟨na, ⟨#[110, 101, 119]⟩, 0, 0, 0, 0, 0, 0⟩)))
      simp only [Hx] at R3
      go_wp2_with fail
      refine (HPT.out A2 c2 _ R3.out hc2).mono ?_
      rintro e w4 ⟨A3, c3, rfl, hc3, _, hH3, hb⟩
      have q0 : w4.cell? ⟨w3.heap.size, 0, none⟩ = some (.int .u32 na) := by rw [hb.cell (p := ⟨w3.heap.size, 0, none⟩) (by simp)]; simp
      have B4 := Lib.hid (B2.out.trans ((hx_below _ hb).mono B2.out.size))
      have R4 := Lib.hid (R2.out.below (hx_below _ hb))
      clear hb hH3 hc3
      simp only [List.length_nil]
      go_wp2_with fail
      refine (HGT.out A2 c2 _ R4.out hc2).mono ?_
      rintro e w5 ⟨rfl, hb⟩
      have B5 := Lib.hid (B4.out.trans (hb.mono B4.out.size))
      clear hb
      go_wp2_with fail
      go_ret
      exact ⟨rfl, B5.out.alloc B5.out.size _⟩
    · have hC0 : putC ys ⟨na, ⟨#[110, 101, 119]⟩, 0, 0, 0, 0, 0, 0⟩ = 0 := by
        have := hC
        rw [if_neg (by simp), if_neg h48] at this
        exact this
      have hR0 : putR ys ⟨na, ⟨#[110, 101, 119]⟩, 0, 0, 0, 0, 0, 0⟩ = ins ys ⟨na, ⟨#[110, 101, 119]⟩, 0, 0, 0, 0, 0, 0⟩ := by simp [putR, hC0]
      have hil := ins_length ys ⟨na, ⟨#[110, 101, 119]⟩, 0, 0, 0, 0, 0, 0⟩
      rw [HYL.out] at hil
      have hdi := del_ins (g := ⟨na, ⟨#[110, 101, 119]⟩, 0, 0, 0, 0, 0, 0⟩) HGD.out.1 hi
      have hia := HGD.out.1.ins_at (g := ⟨na, ⟨#[110, 101, 119]⟩, 0, 0, 0, 0, 0, 0⟩) hi
      rw [hC0, hR0] at HPT
      generalize ins ys ⟨na, ⟨#[110, 101, 119]⟩, 0, 0, 0, 0, 0, 0⟩ = ls at *
      have htk : isAt ls na = true := by rw [(hia na).1]; simp
      have htC : takeC ls na = 0 := by simp [takeC, htk]
      have htR : takeR ls na = ys := by unfold takeR; rw [if_pos htk]; exact hdi
      have HTK := Lib.hid fun A2 c2 W (hW : Hs W A2 ls) (hc : ls.length ≤ c2) => take_any na A2 ls c2 W hW hc (by omega) hnn.1 hnn.2
      rw [htC, htR] at HTK
      have HLG := Lib.hid fun (a : Int) (h0 : 0 ≤ a) (h1 : a < 4294967296) A2 c2 W (hW : Hs W A2 ls) (hc : ls.length ≤ c2) => get_any a A2 ls c2 W hW hc h0 h1
      have HGA := Lib.hid (show ∀ z ∈ ys, isAt ls z.a = true ∧ gt ls z.a = z from fun z hz => by
        have hm := HGD.out.1.mem hz
        have hne : z.a ≠ na := HGD.out.1.not hi z hz
        rw [(hia z.a).1, (hia z.a).2, hm.1, hm.2, if_neg hne]
        simp)
      rw [hil] at HTK HLG
      have HIL := Lib.hid hil
      clear hC hC0 hR0 hgz hi hia hdi htk htC htR hil HGT
      go_enter Try.func7, Try.ntmps7
      go_wp2_with fail
      refine (awake_any _).mono ?_
      rintro e w1 ⟨rfl, hb1⟩
      have B1 := Lib.hid hb1
      clear hb1
      go_wp2_with fail
      refine (HSO.out _ B1.out).mono ?_
      rintro e w2 ⟨A2, c2, rfl, hc2, _, hH2, hb2⟩
      have B2 := Lib.hid (B1.out.trans (hb2.mono B1.out.size))
      have R2 := Lib.hid hH2
      rw [HYL.out] at hc2 ⊢
      clear hb2 hH2 HSO B1
      go_wp2_with fail
      refine (HN.out _).mono ?_
      rintro e w3 ⟨rfl, rfl⟩
      have R3 := Lib.hid (R2.out.below ((Below.refl _ w3).alloc (Nat.le_refl _) (Hx ⟨na, ⟨#[110, 101, 119]⟩, 0, 0, 0, 0, 0, 0⟩)))
      simp only [Hx] at R3
      go_wp2_with fail
      refine (HPT.out A2 c2 _ R3.out hc2).mono ?_
      rintro e w4 ⟨A3, c3, rfl, hc3, _, hH3, hb⟩
      have q0 : w4.cell? ⟨w3.heap.size, 0, none⟩ = some (.int .u32 na) := by rw [hb.cell (p := ⟨w3.heap.size, 0, none⟩) (by simp)]; simp
      have B4 := Lib.hid (B2.out.trans ((hx_below _ hb).mono B2.out.size))
      have R4 := Lib.hid (R2.out.below (hx_below _ hb))
      have L4 := Lib.hid hH3
      rw [HIL.out] at hc3 ⊢
      clear hb hH3
      go_wp2_with fail
      refine (HTK.out A3 c3 _ L4.out hc3).mono ?_
      rintro e w5 ⟨A4, c4, rfl, hc4, _, hH4, hb⟩
      have B5 := Lib.hid (B4.out.trans (hb.mono B4.out.size))
      have R5 := Lib.hid (R4.out.below hb)
      have L5 := Lib.hid (L4.out.below hb)
      have M5 := Lib.hid hH4
      rw [HYL.out] at hc4 ⊢
      clear hb hH4 q0
      go_wp2_with fail
      go_loopw [78] (fun i wr => ∃ k : Nat, i = .int .i64 k ∧ k ≤ YL ∧ Hid (Below w5.heap.size w5 wr)) (fun i _ => YL - (intOf i).toNat)
      case atStart => exact ⟨0, rfl, by omega, Below.refl _ _⟩
      case round =>
        obtain ⟨k, rfl, hk, HH⟩ := hrel
        by_cases hlt : k < YL
        · obtain ⟨z, hz⟩ : ∃ z, ys[k]? = some z := ⟨_, List.getElem?_eq_getElem (by rw [HYL.out]; exact hlt)⟩
          obtain ⟨yA, rfl⟩ := hs_some R5.out (by rw [HYL.out]; omega)
          obtain ⟨yM, rfl⟩ := hs_some M5.out (by rw [HYL.out]; omega)
          have RW := Lib.hid (R5.out.below HH.out)
          have LW := Lib.hid (L5.out.below HH.out)
          have MW := Lib.hid (M5.out.below HH.out)
          have hok := R5.out.ok hz
          have c0 : wr.cell? (yA.add (k * 8)) = some (.int .u32 z.a) := by
            have := RW.out.at hz 0 _ rfl
            rwa [Addr.add_add] at this
          have hga := HGA.out z (List.mem_of_getElem? hz)
          have HG := Lib.hid fun W (hW : Hs W A3 ls) => HLG.out z.a hok.1 hok.2.1 A3 c3 W hW hc3
          rw [hga.1, hga.2] at HG
          have HZ := Lib.hid hz
          have hkc : (k : Int) < c2 := by omega
          have hkl : (k : Int) < YL := by omega
          clear hz hga hok
          simp only [hv] at HG
          go_wp2_with fail
          refine (HG.out _ LW.out).mono ?_
          rintro e w6 ⟨rfl, hb⟩
          have B6' := Lib.hid (HH.out.trans (hb.mono HH.out.size))
          have R6 := Lib.hid (RW.out.below hb)
          have M6 := Lib.hid (MW.out.below hb)
          clear hb c0
          go_upto_region 16 with fail
          have HBX := Lib.hid (hs_box w6 z (R6.out.ok HZ.out))
          have HA7 : Below w6.heap.size w6 (w6.alloc (Hx z)) := (Below.refl _ w6).alloc (Nat.le_refl _) _
          have B7 := Lib.hid (B6'.out.trans (HA7.mono B6'.out.size))
          have R7 := Lib.hid (R6.out.below HA7)
          have M7 := Lib.hid (M6.out.below HA7)
          clear HA7
          simp only [Hx] at HBX B7 R7 M7
          generalize hW7 : w6.alloc (.cells #[.int .u32 z.a, .string z.T, .int .u8 z.m0, .int .u8 z.m1, .int .u8 z.m2, .int .u8 z.m3, .int .u8 z.m4, .int .u8 z.m5] 33) = W7 at *
          have LM := Lib.hid fun W (h : Rg W7 W) => (M7.out.below (below_rg h)).at HZ.out
          have LR := Lib.hid fun W (h : Rg W7 W) => (R7.out.below (below_rg h)).at HZ.out
          have LX := Lib.hid fun W (h : Rg W7 W) => hs_at (HBX.out.below (below_rg h))
          clear hW7
          refine wp_region_quiet_below (by kernel_rfl) (by kernel_rfl) ?_
          (try simp only [Act.put])
          repeat (first
            | (refine quiet_load33 (.tmp 93) (yM.add (k * 8)) z LM.out ?_ ?_ ?_ ?_; rotate_left; (with_reducible rfl); rfl; rotate_left; kernel_rfl; simp only [Act.put, List.setIfInBounds_toArray, List.set_cons_zero, List.set_cons_succ, hv])
            | (refine quiet_load33 (.tmp 97) (yA.add (k * 8)) z LR.out ?_ ?_ ?_ ?_; rotate_left; (with_reducible rfl); rfl; rotate_left; kernel_rfl; simp only [Act.put, List.setIfInBounds_toArray, List.set_cons_zero, List.set_cons_succ, hv])
            | (refine quiet_load33 (.tmp 14) ⟨w6.heap.size, 0, none⟩ z LX.out ?_ ?_ ?_ ?_; rotate_left; (with_reducible rfl); rfl; rotate_left; kernel_rfl; simp only [Act.put, List.setIfInBounds_toArray, List.set_cons_zero, List.set_cons_succ, hv])
            | (refine quiet_load33 (.tmp 108) (yA.add (k * 8)) z LR.out ?_ ?_ ?_ ?_; rotate_left; (with_reducible rfl); rfl; rotate_left; kernel_rfl; simp only [Act.put, List.setIfInBounds_toArray, List.set_cons_zero, List.set_cons_succ, hv])
            | (refine quiet_same33 (.tmp 94) (.tmp 98) z ?_ ?_ ?_ ?_ ?_; rotate_left; (with_reducible rfl); rfl; rfl; rotate_left; kernel_rfl; simp only [Act.put, List.setIfInBounds_toArray, List.set_cons_zero, List.set_cons_succ])
            | (refine quiet_same33 (.tmp 105) (.tmp 109) z ?_ ?_ ?_ ?_ ?_; rotate_left; (with_reducible rfl); rfl; rfl; rotate_left; kernel_rfl; simp only [Act.put, List.setIfInBounds_toArray, List.set_cons_zero, List.set_cons_succ])
            | go_big_quiet_step (fail))
          refine wpQuiet_nil ?_
          intro w8 hw8
          have B8 := Lib.hid (B7.out.trans ((below_rg hw8).mono B7.out.size))
          clear hw8 LM LR LX
          go_wp2_with fail
          go_roundw
          case rel => exact ⟨k + 1, by go_num, by omega, B8.out⟩
          case measure => simp [intOf]; omega
        · obtain rfl : k = YL := by omega
          go_wp2_with fail
          go_ret
          exact ⟨rfl, B5.out.trans (HH.out.mono B5.out.size)⟩
  · rw [hi] at hC
    have hC6 : putC ys ⟨na, ⟨#[110, 101, 119]⟩, 0, 0, 0, 0, 0, 0⟩ = 6 := by simpa using hC
    have hR6 : putR ys ⟨na, ⟨#[110, 101, 119]⟩, 0, 0, 0, 0, 0, 0⟩ = [] := by simp [putR, hC6]
    rw [hC6, hR6] at HPT
    rw [hi] at HGT
    generalize gt ys na = g at *
    obtain ⟨ga, gT, g0, g1, g2, g3, g4, g5⟩ := g
    simp only [List.length_nil, hv] at HPT HGT
    clear hC hC6 hR6 hi
    go_enter Try.func7, Try.ntmps7
    go_wp2_with fail
    refine (awake_any _).mono ?_
    rintro e w1 ⟨rfl, hb1⟩
    have B1 := Lib.hid hb1
    clear hb1
    go_wp2_with fail
    refine (HSO.out _ B1.out).mono ?_
    rintro e w2 ⟨A2, c2, rfl, hc2, _, hH2, hb2⟩
    have B2 := Lib.hid (B1.out.trans (hb2.mono B1.out.size))
    have R2 := Lib.hid hH2
    rw [HYL.out] at hc2 ⊢
    clear hb2 hH2 HSO B1
    go_wp2_with fail
    refine (HN.out _).mono ?_
    rintro e w3 ⟨rfl, rfl⟩
    have R3 := Lib.hid (R2.out.below ((Below.refl _ w3).alloc (Nat.le_refl _) (Hx ⟨na, ⟨#[110, 101, 119]⟩, 0, 0, 0, 0, 0, 0⟩)))
    simp only [Hx] at R3
    go_wp2_with fail
    refine (HPT.out A2 c2 _ R3.out hc2).mono ?_
    rintro e w4 ⟨A3, c3, rfl, hc3, _, hH3, hb⟩
    have q0 : w4.cell? ⟨w3.heap.size, 0, none⟩ = some (.int .u32 na) := by rw [hb.cell (p := ⟨w3.heap.size, 0, none⟩) (by simp)]; simp
    have B4 := Lib.hid (B2.out.trans ((hx_below _ hb).mono B2.out.size))
    have R4 := Lib.hid (R2.out.below (hx_below _ hb))
    clear hb hH3 hc3
    simp only [List.length_nil]
    go_wp2_with fail
    refine (HGT.out A2 c2 _ R4.out hc2).mono ?_
    rintro e w5 ⟨rfl, hb⟩
    have B5 := Lib.hid (B4.out.trans (hb.mono B4.out.size))
    clear hb
    go_wp2_with fail
    go_ret
    exact ⟨rfl, B5.out.alloc B5.out.size _⟩
end Go.Proofs.Ytafmcnnbeoffdaa
