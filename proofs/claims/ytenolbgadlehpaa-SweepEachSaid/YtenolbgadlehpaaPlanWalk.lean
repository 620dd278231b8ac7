/-
  SweepPlan's walk: whom a tick asks is what the document says, whatever room there is. Conditions: what comes in lies in memory, and numbers have their bits.
-/
import Derived.Test.YtenolbgadlehpaaHcm
import Derived.Test.YtenolbgadlehpaaLpl
set_option linter.unusedSimpArgs false
set_option linter.unusedVariables false
namespace Go.Proofs.Ytenolbgadlehpaa
open Go.RowKit

theorem ea_at {w : World} {y : Addr} {zs : List Int} (h : Rw eA w (some y) zs) {k : Nat} {z : Int} (hz : zs[k]? = some z) : w.cell? (y.add k) = some (.int .u32 z) := by
  have h1 := h.at hz 0 _ rfl
  rwa [Addr.add_add, show k * eA.N + 0 = k by show k * 1 + 0 = k; omega] at h1

set_option maxRecDepth 100000 in
set_option maxHeartbeats 16000000 in
theorem sweepPlan_walk (x : Hc) (B : Option Addr) (ys : List Ac) (cy : Nat) (later room : Int) (w : World) (hx : x.Ok) (hB : Rw eC w B ys) (hcy : ys.length ≤ cy) (hok : ∀ y ∈ ys, y.Ok) (hl0 : 0 ≤ later) (hl1 : later < 256) (hr0 : -128 ≤ room) (hr1 : room < 128) :
    Calls Try.prog 4 #[hv x, .slice B ys.length cy, .int .u8 later, .int .i8 room] w fun e w' => e = .returned (.bool true) ∧ Below w.heap.size w w' := by
  have B0 := Lib.hid (show Below w.heap.size w (w.alloc (Hcx x)) from (Below.refl _ w).alloc (Nat.le_refl _) _)
  have M0 := Lib.hid (show Hm (w.alloc (Hcx x)) w.heap.size x from hc_box w x)
  have RB0 := Lib.hid (hB.below B0.out)
  have HCH := Lib.hid fun W => choice_any x W hx
  obtain ⟨C, hC⟩ : ∃ C, ch x = C := ⟨_, rfl⟩
  have HSO := Lib.hid fun W (hR : Rw eC W B ys) => some_any C B ys cy W hR hok hcy
  obtain ⟨v1, v2, v3⟩ := smO_ok C.d (ys.take 60) (fun y hy => hok y (List.mem_of_mem_take hy))
  have v4 : (smO C.d (ys.take 60)).2 ≤ 60 := by rw [List.length_take] at v3; omega
  rw [hC] at HCH
  clear hB hok hC v3
  generalize ys.length = Ly at *
  generalize smO C.d (ys.take 60) = s at *
  obtain ⟨ss, nw⟩ := s
  dsimp only at v1 v2 v4
  have HV := Lib.hid v1
  have hss := v1.r.few
  have HPL := Lib.hid fun As cs W hR hc => plan_any C (nw + later) room As ss cs W hR hc hss HV.out.sv (by omega) (by omega)
  have HLP := Lib.hid fun As cs W hR hc => lplan_any C (nw + later) room As ss cs W hR hc hss HV.out.sv HV.out.due (by omega) (by omega)
  have hfw := plan_few ss C.d room (ord ss (nw + later))
  rw [show planL ss C.d room (ord ss (nw + later)) = planO ss C.d (nw + later) room from rfl] at hfw
  obtain ⟨pv, -⟩ := planO_ok HV.out C.d (nw + later) room
  generalize planO ss C.d (nw + later) room = S at *
  obtain ⟨l1, l2⟩ := S
  dsimp only at hfw pv
  have HPV := Lib.hid pv
  have hl1f := pv.r.few
  clear v1 pv
  unfold hv Hcx cfv at *
  go_enter Try.func4, Try.ntmps4
  go_wp2_with fail
  generalize w.alloc (.cells #[.int .u8 x.a, .int .u8 x.b, .int .u8 x.c, .int .u8 x.d, .int .u8 x.e, .int .u8 x.f, .int .u8 x.g, .int .u8 x.h, .int .u8 x.i] 23) = W0 at *
  refine (awake_any W0).mono ?_
  rintro e W1 ⟨rfl, hb⟩
  have B1 := Lib.hid (B0.out.trans (hb.mono B0.out.size))
  have M1 := Lib.hid (M0.out.below hb)
  have RB1 := Lib.hid (RB0.out.below hb)
  clear hb M0 RB0
  go_wp2_with (refine at_load23 (.tmp 4) rfl rfl _ x rfl M1.out ?_)
  refine (HCH.out W1).mono ?_
  rintro e W2 ⟨rfl, hb⟩
  have B2a := Lib.hid (B1.out.trans (hb.mono B1.out.size))
  have RB2a := Lib.hid (RB1.out.below hb)
  have C2 := Lib.hid (cm_box W2 C)
  have B2 := Lib.hid (B2a.out.alloc B2a.out.size (Cfx C))
  have RB2 := Lib.hid (RB2a.out.below ((Below.refl _ W2).alloc (Nat.le_refl _) (Cfx C)))
  clear hb RB1 M1 B2a RB2a
  go_upto_region 4 with fail
  change Code.wp _ _ _ _ (W2.alloc (Cfx C))
  generalize W2.alloc (Cfx C) = W3 at *
  obtain ⟨bc, hbc⟩ : ∃ bc, W2.heap.size = bc := ⟨_, rfl⟩
  rw [hbc] at C2 ⊢
  clear hbc
  go_wp2_with (refine at_load27 (.tmp 9) rfl rfl _ C rfl C2.out.at ?_)
  refine (HSO.out W3 RB2.out).mono ?_
  rintro e W4 ⟨As, cs, rfl, hcs, hRs, hb⟩
  dsimp only at hcs hRs
  have B4 := Lib.hid (B2.out.trans (hb.mono B2.out.size))
  have C4 := Lib.hid (C2.out.below hb)
  have RS4 := Lib.hid hRs
  have HCS := Lib.hid hcs
  clear hb RB2 hRs hcs
  dsimp only
  go_wp2_with (refine at_load27 (.tmp 9) rfl rfl _ C rfl C4.out.at ?_)
  refine (HPL.out As cs W4 RS4.out HCS.out).mono ?_
  rintro e W5 ⟨A1, c1, A2, c2, rfl, hc1, hR1, hR2, hb⟩
  dsimp only at hc1 hR1 hR2
  have B5 := Lib.hid (B4.out.trans (hb.mono B4.out.size))
  have C5 := Lib.hid (C4.out.below hb)
  have RS5 := Lib.hid (RS4.out.below hb)
  have RL5 := Lib.hid hR1
  have RQ5 := Lib.hid hR2
  have HC1 := Lib.hid hc1
  clear hb RS4 hR1 hR2 hc1
  dsimp only
  go_wp2_with (refine at_load27 (.tmp 9) rfl rfl _ C rfl C5.out.at ?_)
  refine (HLP.out As cs W5 RS5.out HCS.out).mono ?_
  rintro e W6 ⟨A3, c3, A4, c4, rfl, hc3, hR3, hR4, hb⟩
  dsimp only at hc3 hR3 hR4
  have B6 := Lib.hid (B5.out.trans (hb.mono B5.out.size))
  have RL6 := Lib.hid (RL5.out.below hb)
  have RQ6 := Lib.hid (RQ5.out.below hb)
  have RM6 := Lib.hid hR3
  have RW6 := Lib.hid hR4
  clear hb RS5 RL5 RQ5 hR3 hR4 hc3
  dsimp only
  have HSA := Lib.hid (same_any A1 A3 l1 l1 c1 c3 W6 RL6.out RM6.out)
  rw [decide_eq_true rfl] at HSA
  have HRR := Lib.hid fun W hR => right_row A1 l1 c1 W hR HPV.out.u HC1.out
  rw [(rg_iff l1).2 HPV.out.r] at HRR
  obtain ⟨n1, hn1⟩ : ∃ n, l1.length = n := ⟨_, rfl⟩
  have HN1 := Lib.hid hn1
  rw [hn1] at HSA HRR ⊢
  obtain ⟨n2, hn2⟩ : ∃ n, l2.length = n := ⟨_, rfl⟩
  have HN2 := Lib.hid hn2
  rw [hn2] at hfw ⊢
  clear hn1 hn2 hl1f
  have hfew : decide (max 0 room < (n2 : Int)) = false := decide_eq_false (by omega)
  have hn2b : n2 ≤ 128 := by omega
  clear hfw
  go_wp2_with fail
  refine HSA.out.mono ?_
  rintro e W7 ⟨rfl, q7, rfl⟩
  have B7 := Lib.hid (bdrewN B6.out q7)
  have RL7 := Lib.hid (RL6.out.drewN q7)
  have RQ7 := Lib.hid (RQ6.out.drewN q7)
  have RW7 := Lib.hid (RW6.out.drewN q7)
  clear B6 RL6 RQ6 RW6 RM6 HSA
  generalize W6.drewN q7 = W7 at *
  go_wp2_with fail
  refine (HRR.out W7 RL7.out).mono ?_
  rintro e W8 ⟨rfl, hb⟩
  have B8 := Lib.hid (B7.out.trans (hb.mono B7.out.size))
  have RQ8 := Lib.hid (RQ7.out.below hb)
  have RW8 := Lib.hid (RW7.out.below hb)
  clear hb
  go_wp2_with fail
  go_loopw [77] (fun i wr => ∃ k n : Nat, i = .int .i64 k ∧ k ≤ n2 ∧ Hid (wr = W8.drewN n)) (fun i _ => n2 - (intOf i).toNat)
  case atStart => exact ⟨0, 0, rfl, by omega, Lib.hid rfl⟩
  case round =>
    obtain ⟨k, n, rfl, hk, HW⟩ := hrel
    by_cases hkn : k < n2
    · obtain ⟨z, hz⟩ : ∃ z, l2[k]? = some z := ⟨_, List.getElem?_eq_getElem (by rw [HN2.out]; exact hkn)⟩
      obtain ⟨y2, rfl⟩ := rw_some RQ8.out (by rw [HN2.out]; omega)
      obtain ⟨y4, rfl⟩ := rw_some RW8.out (by rw [HN2.out]; omega)
      have k2 : wr.cell? (y2.add k) = some (.int .u32 z) := by rw [HW.out]; exact ea_at (RQ8.out.drewN n) hz
      have k4 : wr.cell? (y4.add k) = some (.int .u32 z) := by rw [HW.out]; exact ea_at (RW8.out.drewN n) hz
      have hne : (z != z) = false := by simp
      clear hz
      go_wp2_with fail
      go_quiet (fail)
      go_wp2_with fail
      go_roundw
      case rel => exact ⟨k + 1, n + nq, by go_num, by omega, Lib.hid (by rw [HW.out, World.drewN_drewN])⟩
      case measure => simp [intOf]; omega
    · obtain rfl : n2 = k := by omega
      go_wp2_with fail
      go_ret
      exact ⟨rfl, by rw [HW.out]; exact bdrewN B8.out n⟩
end Go.Proofs.Ytenolbgadlehpaa
