/-
  ProbeAnswer's walk: only the answer to what was asked is one. Conditions: numbers have their bits.
-/
import Derived.BigGuard
import Derived.Test.YtjjbkhelnmdfnaaSom
set_option linter.unusedSimpArgs false
set_option linter.unusedVariables false
namespace Go.Proofs.Ytjjbkhelnmdfnaa
open Go.RowKit

theorem Kb.fr {w : World} {b : Nat} {x : Pk} (h : Kb w b x) (j : Nat) (hj : j < 11) : w.frozen? ⟨b, j, none⟩ = false := by
  have := (h.2 j hj).2
  rwa [Nat.zero_add] at this
theorem Kb.set9 {w : World} {b : Nat} {x : Pk} (h : Kb w b x) (m : Int) : Kb (w.setCell ⟨b, 9, none⟩ (.int .i64 m)) b ⟨x.a, x.f, x.t, x.m0, x.m1, x.m2, x.m3, x.m4, x.m5, m, x.s⟩ := by
  refine ⟨fun j v hv => ?_, World.there_setCells h.2 b 9 [.int .i64 m]⟩
  match j, hv with
  | 0, hv => rw [World.cell?_setCell_other _ _ _ _ (by simp)]; exact h.1 0 v hv
  | 1, hv => rw [World.cell?_setCell_other _ _ _ _ (by simp)]; exact h.1 1 v hv
  | 2, hv => rw [World.cell?_setCell_other _ _ _ _ (by simp)]; exact h.1 2 v hv
  | 3, hv => rw [World.cell?_setCell_other _ _ _ _ (by simp)]; exact h.1 3 v hv
  | 4, hv => rw [World.cell?_setCell_other _ _ _ _ (by simp)]; exact h.1 4 v hv
  | 5, hv => rw [World.cell?_setCell_other _ _ _ _ (by simp)]; exact h.1 5 v hv
  | 6, hv => rw [World.cell?_setCell_other _ _ _ _ (by simp)]; exact h.1 6 v hv
  | 7, hv => rw [World.cell?_setCell_other _ _ _ _ (by simp)]; exact h.1 7 v hv
  | 8, hv => rw [World.cell?_setCell_other _ _ _ _ (by simp)]; exact h.1 8 v hv
  | 9, hv =>
    simp [pkl] at hv
    subst hv
    exact World.cell?_setCell_same _ _ _ (h.1 9 _ rfl)
  | 10, hv => rw [World.cell?_setCell_other _ _ _ _ (by simp)]; exact h.1 10 v hv
  | j + 11, hv => simp [pkl] at hv
theorem Kb.set1 {w : World} {b : Nat} {x : Pk} (h : Kb w b x) (m : Int) : Kb (w.setCell ⟨b, 1, none⟩ (.int .u32 m)) b ⟨x.a, m, x.t, x.m0, x.m1, x.m2, x.m3, x.m4, x.m5, x.i, x.s⟩ := by
  refine ⟨fun j v hv => ?_, World.there_setCells h.2 b 1 [.int .u32 m]⟩
  match j, hv with
  | 0, hv => rw [World.cell?_setCell_other _ _ _ _ (by simp)]; exact h.1 0 v hv
  | 1, hv =>
    simp [pkl] at hv
    subst hv
    exact World.cell?_setCell_same _ _ _ (h.1 1 _ rfl)
  | 2, hv => rw [World.cell?_setCell_other _ _ _ _ (by simp)]; exact h.1 2 v hv
  | 3, hv => rw [World.cell?_setCell_other _ _ _ _ (by simp)]; exact h.1 3 v hv
  | 4, hv => rw [World.cell?_setCell_other _ _ _ _ (by simp)]; exact h.1 4 v hv
  | 5, hv => rw [World.cell?_setCell_other _ _ _ _ (by simp)]; exact h.1 5 v hv
  | 6, hv => rw [World.cell?_setCell_other _ _ _ _ (by simp)]; exact h.1 6 v hv
  | 7, hv => rw [World.cell?_setCell_other _ _ _ _ (by simp)]; exact h.1 7 v hv
  | 8, hv => rw [World.cell?_setCell_other _ _ _ _ (by simp)]; exact h.1 8 v hv
  | 9, hv => rw [World.cell?_setCell_other _ _ _ _ (by simp)]; exact h.1 9 v hv
  | 10, hv => rw [World.cell?_setCell_other _ _ _ _ (by simp)]; exact h.1 10 v hv
  | j + 11, hv => simp [pkl] at hv
theorem mat_one (x : Pr) (p : Pk) : matC [x] p = if mt p x = true then 0 else 7 := by
  unfold matC plc
  rw [List.findIdx?_cons]
  cases mt p x <;> rfl

set_option maxRecDepth 100000 in
set_option maxHeartbeats 16000000 in
theorem probeAnswer_walk (a s d ot : Int) (an : Bool) (w : World) (ha0 : 0 ≤ a) (ha1 : a < 4294967296) (hs0 : 0 ≤ s) (hs1 : s < 65536) (hd0 : 0 ≤ d) (hd1 : d < 256) (ho0 : 0 ≤ ot) (ho1 : ot < 65536) :
    Calls Try.prog 7 #[.int .u32 a, .int .u16 s, .int .u8 d, .int .u16 ot, .bool an] w fun e w' => e = .returned (.bool true) ∧ Below w.heap.size w w' := by
  have HOF := Lib.hid fun W => of_any a s 1 W
  rw [show ofP a s 1 = ⟨a, a % 65536, s, 1, 0⟩ by unfold ofP; rw [show s % 65536 = s by omega, cl_in (by omega) (by omega)]] at HOF
  obtain ⟨i, hi⟩ : ∃ i, a % 65536 = i := ⟨_, rfl⟩
  rw [hi] at HOF
  have hi0 : 0 ≤ i := by omega
  have hi1 : i < 65536 := by omega
  clear hi
  have HPU := Lib.hid fun W => put_any ⟨a, i, s, 1, 0⟩ none [] 0 W (Rw.nil W none) (by simp) (by simp)
  rw [show putC [] ⟨a, i, s, 1, 0⟩ = 0 from rfl, show putR [] ⟨a, i, s, 1, 0⟩ = [⟨a, i, s, 1, 0⟩] from rfl] at HPU
  have HMA := Lib.hid fun q A cap W hR (hc : 1 ≤ cap) => match_any q A [⟨a, i, s, 1, 0⟩] cap W hR hc (by simp)
  have HMC := Lib.hid (mat_one ⟨a, i, s, 1, 0⟩)
  unfold prv at HOF HPU
  dsimp only at HOF HPU
  simp only [List.length_cons, List.length_nil, Nat.zero_add] at HPU HMA
  go_enter Try.func7, Try.ntmps7
  go_wp2_with fail
  refine (awake_any w).mono ?_
  rintro e W1 ⟨rfl, hb⟩
  have B1 := Lib.hid hb
  clear hb
  go_wp2_with fail
  refine (HOF.out _).mono ?_
  rintro e W2 ⟨rfl, hb⟩
  have B2' := Lib.hid (B1.out.trans (hb.mono B1.out.size))
  have B2 := Lib.hid (B2'.out.alloc B2'.out.size (Prx ⟨a, i, s, 1, 0⟩))
  have Q2 := Lib.hid (qb_box W2 ⟨a, i, s, 1, 0⟩)
  clear hb B2'
  unfold Prx at *
  dsimp only at B2 Q2
  go_upto_region 4 with fail
  generalize W2.alloc (.cells #[.int .u32 a, .int .i64 i, .int .i64 s, .int .i64 1, .int .i64 0] 37) = W3 at *
  generalize W2.heap.size = b at *
  go_wp2_with (refine at_load37 (.tmp 11) rfl rfl _ ⟨a, i, s, 1, 0⟩ rfl Q2.out.at ?_)
  refine (HPU.out _).mono ?_
  rintro e W4 ⟨A4, c4, rfl, hc4, -, hR4, hb⟩
  simp only [List.length_cons, List.length_nil, Nat.zero_add] at hc4 ⊢
  have B4' := Lib.hid (B2.out.trans (hb.mono B2.out.size))
  have Q4' := Lib.hid (Q2.out.below hb)
  have B4 := Lib.hid (B4'.out.alloc B4'.out.size (Pkx ⟨an, a, 0, 0, 0, 0, 0, 0, 0, i, ot⟩))
  have K4 := Lib.hid (kb_box W4 ⟨an, a, 0, 0, 0, 0, 0, 0, 0, i, ot⟩)
  have R4 := Lib.hid (hR4.below ((Below.refl _ W4).alloc (Nat.le_refl _) (Pkx ⟨an, a, 0, 0, 0, 0, 0, 0, 0, i, ot⟩)))
  have Q4 := Lib.hid (Q4'.out.below ((Below.refl _ W4).alloc (Nat.le_refl _) (Pkx ⟨an, a, 0, 0, 0, 0, 0, 0, 0, i, ot⟩)))
  obtain ⟨q0, q1, q2, -, -⟩ := Q4'.out.c
  have hbl := B4'.out.size
  have HW4 := Lib.hid hbl
  have HQB := Lib.hid Q4'.out.lt
  have HLT := Lib.hid (fun y hy => rw_lt hR4 y hy (by simp))
  clear hb hR4 B4' Q4' Q2 hbl
  unfold Pkx at *
  dsimp only at B4 R4 Q4 q0 q1 q2
  go_upto_region 8 with fail
  generalize W4.alloc (.cells #[.bool an, .int .u32 a, .int .u32 0, .int .u8 0, .int .u8 0, .int .u8 0, .int .u8 0, .int .u8 0, .int .u8 0, .int .i64 i, .int .i64 ot] 44) = W5 at *
  generalize W4.heap.size = b2 at *
  obtain ⟨k0, k1, k9, k10⟩ := K4.out.c
  have f1 := K4.out.fr 1 (by omega)
  have f9 := K4.out.fr 9 (by omega)
  dsimp only at k0 k1 k9 k10
  clear q0 q1 q2
  have e4 : d % 4 = 0 ∨ d % 4 = 1 ∨ 1 < d % 4 := by omega
  rcases e4 with h4 | h4 | h4
  · have e0 : (d % 4 == 0) = true := by simpa using h4
    have e1 : (d % 4 == 1) = false := by simp [h4]
    have e2 : decide (1 < d % 4) = false := decide_eq_false (by omega)
    clear h4
    have B6 := Lib.hid (B4.out.setCell (p := ⟨b2, 9, none⟩) HW4.out (.int .i64 (i + 1)))
    have B56 := Lib.hid ((Below.refl b2 W5).setCell (p := ⟨b2, 9, none⟩) (Nat.le_refl _) (.int .i64 (i + 1)))
    have K6 := Lib.hid (K4.out.set9 (i + 1))
    have R6 := Lib.hid (R4.out.belowB B56.out (fun y hy => HLT.out y hy))
    have Q6 := Lib.hid (Q4.out.keep B56.out HQB.out)
    clear k0 k1 R4 Q4 K4 B4 B56
    dsimp only at K6
    go_upto_region 10 with fail
    generalize W5.setCell ⟨b2, 9, none⟩ (.int .i64 (i + 1)) = W6 at *
    clear k9 k10 f1 f9
    cases an
    · have HM1 := Lib.hid (HMA.out ⟨false, a, 0, 0, 0, 0, 0, 0, 0, i + 1, ot⟩ A4 c4 W6 R6.out hc4)
      rw [show matC [⟨a, i, s, 1, 0⟩] ⟨false, a, 0, 0, 0, 0, 0, 0, 0, i + 1, ot⟩ = 7 by rw [HMC.out]; simp [mt]] at HM1
      unfold pkv at HM1
      dsimp only at HM1
      go_wp2_with (refine at_load44 (.tmp 14) rfl rfl _ ⟨false, a, 0, 0, 0, 0, 0, 0, 0, i + 1, ot⟩ rfl K6.out.at ?_)
      refine HM1.out.mono ?_
      rintro e W7 ⟨A7, c7, rfl, -, -, -, hb⟩
      have B7 := Lib.hid (B6.out.trans (hb.mono B6.out.size))
      have R7 := Lib.hid (R6.out.below hb)
      obtain ⟨q0, q1, q2, -, -⟩ := (Q6.out.below hb).c
      dsimp only at q0 q1 q2
      have HM2 := Lib.hid (HMA.out ⟨true, a, 0, 0, 0, 0, 0, 0, 0, i, s⟩ A4 c4 W7 R7.out hc4)
      rw [show matC [⟨a, i, s, 1, 0⟩] ⟨true, a, 0, 0, 0, 0, 0, 0, 0, i, s⟩ = 0 by rw [HMC.out]; simp [mt]] at HM2
      unfold pkv at HM2
      dsimp only at HM2
      clear hb
      go_wp2_with fail
      refine HM2.out.mono ?_
      rintro e W8 ⟨A8, c8, rfl, -, -, -, hb⟩
      have B8 := Lib.hid (B7.out.trans (hb.mono B7.out.size))
      clear hb
      go_wp2_with fail
      go_ret
      exact ⟨rfl, B8.out⟩
    · have HM1 := Lib.hid (HMA.out ⟨true, a, 0, 0, 0, 0, 0, 0, 0, i + 1, ot⟩ A4 c4 W6 R6.out hc4)
      rw [show matC [⟨a, i, s, 1, 0⟩] ⟨true, a, 0, 0, 0, 0, 0, 0, 0, i + 1, ot⟩ = 7 by rw [HMC.out]; simp [mt]; omega] at HM1
      unfold pkv at HM1
      dsimp only at HM1
      go_wp2_with (refine at_load44 (.tmp 14) rfl rfl _ ⟨true, a, 0, 0, 0, 0, 0, 0, 0, i + 1, ot⟩ rfl K6.out.at ?_)
      refine HM1.out.mono ?_
      rintro e W7 ⟨A7, c7, rfl, -, -, -, hb⟩
      have B7 := Lib.hid (B6.out.trans (hb.mono B6.out.size))
      have R7 := Lib.hid (R6.out.below hb)
      obtain ⟨q0, q1, q2, -, -⟩ := (Q6.out.below hb).c
      dsimp only at q0 q1 q2
      have HM2 := Lib.hid (HMA.out ⟨true, a, 0, 0, 0, 0, 0, 0, 0, i, s⟩ A4 c4 W7 R7.out hc4)
      rw [show matC [⟨a, i, s, 1, 0⟩] ⟨true, a, 0, 0, 0, 0, 0, 0, 0, i, s⟩ = 0 by rw [HMC.out]; simp [mt]] at HM2
      unfold pkv at HM2
      dsimp only at HM2
      clear hb
      go_wp2_with fail
      refine HM2.out.mono ?_
      rintro e W8 ⟨A8, c8, rfl, -, -, -, hb⟩
      have B8 := Lib.hid (B7.out.trans (hb.mono B7.out.size))
      clear hb
      go_wp2_with fail
      go_ret
      exact ⟨rfl, B8.out⟩
  · have e0 : (d % 4 == 0) = false := by simp [h4]
    have e1 : (d % 4 == 1) = true := by simpa using h4
    have e2 : decide (1 < d % 4) = false := decide_eq_false (by omega)
    clear h4
    obtain ⟨a1, ha⟩ : ∃ a1, IntKind.u32.wrap (a + 1) = a1 := ⟨_, rfl⟩
    have hne : a ≠ a1 := by rw [← ha, IntKind.wrap_u32]; omega
    have HNE := Lib.hid hne
    clear hne
    have B6 := Lib.hid (B4.out.setCell (p := ⟨b2, 1, none⟩) HW4.out (.int .u32 a1))
    have B56 := Lib.hid ((Below.refl b2 W5).setCell (p := ⟨b2, 1, none⟩) (Nat.le_refl _) (.int .u32 a1))
    have K6 := Lib.hid (K4.out.set1 a1)
    have R6 := Lib.hid (R4.out.belowB B56.out (fun y hy => HLT.out y hy))
    have Q6 := Lib.hid (Q4.out.keep B56.out HQB.out)
    clear k0 k9 R4 Q4 K4 B4 B56
    dsimp only at K6
    go_upto_region 12 with fail
    generalize W5.setCell ⟨b2, 1, none⟩ (.int .u32 a1) = W6 at *
    clear k1 k10 f1 f9
    cases an
    · have HM1 := Lib.hid (HMA.out ⟨false, a1, 0, 0, 0, 0, 0, 0, 0, i, ot⟩ A4 c4 W6 R6.out hc4)
      rw [show matC [⟨a, i, s, 1, 0⟩] ⟨false, a1, 0, 0, 0, 0, 0, 0, 0, i, ot⟩ = 7 by rw [HMC.out]; simp [mt]] at HM1
      unfold pkv at HM1
      dsimp only at HM1
      go_wp2_with (refine at_load44 (.tmp 14) rfl rfl _ ⟨false, a1, 0, 0, 0, 0, 0, 0, 0, i, ot⟩ rfl K6.out.at ?_)
      refine HM1.out.mono ?_
      rintro e W7 ⟨A7, c7, rfl, -, -, -, hb⟩
      have B7 := Lib.hid (B6.out.trans (hb.mono B6.out.size))
      have R7 := Lib.hid (R6.out.below hb)
      obtain ⟨q0, q1, q2, -, -⟩ := (Q6.out.below hb).c
      dsimp only at q0 q1 q2
      have HM2 := Lib.hid (HMA.out ⟨true, a, 0, 0, 0, 0, 0, 0, 0, i, s⟩ A4 c4 W7 R7.out hc4)
      rw [show matC [⟨a, i, s, 1, 0⟩] ⟨true, a, 0, 0, 0, 0, 0, 0, 0, i, s⟩ = 0 by rw [HMC.out]; simp [mt]] at HM2
      unfold pkv at HM2
      dsimp only at HM2
      clear hb
      go_wp2_with fail
      refine HM2.out.mono ?_
      rintro e W8 ⟨A8, c8, rfl, -, -, -, hb⟩
      have B8 := Lib.hid (B7.out.trans (hb.mono B7.out.size))
      clear hb
      go_wp2_with fail
      go_ret
      exact ⟨rfl, B8.out⟩
    · have HM1 := Lib.hid (HMA.out ⟨true, a1, 0, 0, 0, 0, 0, 0, 0, i, ot⟩ A4 c4 W6 R6.out hc4)
      rw [show matC [⟨a, i, s, 1, 0⟩] ⟨true, a1, 0, 0, 0, 0, 0, 0, 0, i, ot⟩ = 7 by rw [HMC.out]; simp [mt, HNE.out]] at HM1
      unfold pkv at HM1
      dsimp only at HM1
      go_wp2_with (refine at_load44 (.tmp 14) rfl rfl _ ⟨true, a1, 0, 0, 0, 0, 0, 0, 0, i, ot⟩ rfl K6.out.at ?_)
      refine HM1.out.mono ?_
      rintro e W7 ⟨A7, c7, rfl, -, -, -, hb⟩
      have B7 := Lib.hid (B6.out.trans (hb.mono B6.out.size))
      have R7 := Lib.hid (R6.out.below hb)
      obtain ⟨q0, q1, q2, -, -⟩ := (Q6.out.below hb).c
      dsimp only at q0 q1 q2
      have HM2 := Lib.hid (HMA.out ⟨true, a, 0, 0, 0, 0, 0, 0, 0, i, s⟩ A4 c4 W7 R7.out hc4)
      rw [show matC [⟨a, i, s, 1, 0⟩] ⟨true, a, 0, 0, 0, 0, 0, 0, 0, i, s⟩ = 0 by rw [HMC.out]; simp [mt]] at HM2
      unfold pkv at HM2
      dsimp only at HM2
      clear hb
      go_wp2_with fail
      refine HM2.out.mono ?_
      rintro e W8 ⟨A8, c8, rfl, -, -, -, hb⟩
      have B8 := Lib.hid (B7.out.trans (hb.mono B7.out.size))
      clear hb
      go_wp2_with fail
      go_ret
      exact ⟨rfl, B8.out⟩
  · have e0 : (d % 4 == 0) = false := by simp; omega
    have e1 : (d % 4 == 1) = false := by simp; omega
    have B6 := B4
    have K6 := K4
    have R6 := R4
    have Q6 := Q4
    obtain ⟨W6, rfl⟩ : ∃ W6, W6 = W5 := ⟨_, rfl⟩
    clear k0 k1 k9 k10 f1 f9
    cases an
    · have HM1 := Lib.hid (HMA.out ⟨false, a, 0, 0, 0, 0, 0, 0, 0, i, ot⟩ A4 c4 W6 R6.out hc4)
      rw [show matC [⟨a, i, s, 1, 0⟩] ⟨false, a, 0, 0, 0, 0, 0, 0, 0, i, ot⟩ = 7 by rw [HMC.out]; simp [mt]] at HM1
      unfold pkv at HM1
      dsimp only at HM1
      go_wp2_with (refine at_load44 (.tmp 14) rfl rfl _ ⟨false, a, 0, 0, 0, 0, 0, 0, 0, i, ot⟩ rfl K6.out.at ?_)
      refine HM1.out.mono ?_
      rintro e W7 ⟨A7, c7, rfl, -, -, -, hb⟩
      have B7 := Lib.hid (B6.out.trans (hb.mono B6.out.size))
      have R7 := Lib.hid (R6.out.below hb)
      obtain ⟨q0, q1, q2, -, -⟩ := (Q6.out.below hb).c
      dsimp only at q0 q1 q2
      have HM2 := Lib.hid (HMA.out ⟨true, a, 0, 0, 0, 0, 0, 0, 0, i, s⟩ A4 c4 W7 R7.out hc4)
      rw [show matC [⟨a, i, s, 1, 0⟩] ⟨true, a, 0, 0, 0, 0, 0, 0, 0, i, s⟩ = 0 by rw [HMC.out]; simp [mt]] at HM2
      unfold pkv at HM2
      dsimp only at HM2
      clear hb
      go_wp2_with fail
      refine HM2.out.mono ?_
      rintro e W8 ⟨A8, c8, rfl, -, -, -, hb⟩
      have B8 := Lib.hid (B7.out.trans (hb.mono B7.out.size))
      clear hb
      go_wp2_with fail
      go_ret
      exact ⟨rfl, B8.out⟩
    · by_cases h5 : ot = s
      · subst h5
        have HM1 := Lib.hid (HMA.out ⟨true, a, 0, 0, 0, 0, 0, 0, 0, i, ot⟩ A4 c4 W6 R6.out hc4)
        rw [show matC [⟨a, i, ot, 1, 0⟩] ⟨true, a, 0, 0, 0, 0, 0, 0, 0, i, ot⟩ = 0 by rw [HMC.out]; simp [mt]] at HM1
        unfold pkv at HM1
        dsimp only at HM1
        go_wp2_with (refine at_load44 (.tmp 14) rfl rfl _ ⟨true, a, 0, 0, 0, 0, 0, 0, 0, i, ot⟩ rfl K6.out.at ?_)
        refine HM1.out.mono ?_
        rintro e W7 ⟨A7, c7, rfl, -, -, -, hb⟩
        have B7 := Lib.hid (B6.out.trans (hb.mono B6.out.size))
        have R7 := Lib.hid (R6.out.below hb)
        obtain ⟨q0, q1, q2, -, -⟩ := (Q6.out.below hb).c
        dsimp only at q0 q1 q2
        have HM2 := Lib.hid (HMA.out ⟨true, a, 0, 0, 0, 0, 0, 0, 0, i, ot⟩ A4 c4 W7 R7.out hc4)
        rw [show matC [⟨a, i, ot, 1, 0⟩] ⟨true, a, 0, 0, 0, 0, 0, 0, 0, i, ot⟩ = 0 by rw [HMC.out]; simp [mt]] at HM2
        unfold pkv at HM2
        dsimp only at HM2
        clear hb
        go_wp2_with fail
        refine HM2.out.mono ?_
        rintro e W8 ⟨A8, c8, rfl, -, -, -, hb⟩
        have B8 := Lib.hid (B7.out.trans (hb.mono B7.out.size))
        clear hb
        go_wp2_with fail
        go_ret
        exact ⟨rfl, B8.out⟩
      · have e5 : (ot == s) = false := by simpa using h5
        have HNE := Lib.hid h5
        clear h5
        have HM1 := Lib.hid (HMA.out ⟨true, a, 0, 0, 0, 0, 0, 0, 0, i, ot⟩ A4 c4 W6 R6.out hc4)
        rw [show matC [⟨a, i, s, 1, 0⟩] ⟨true, a, 0, 0, 0, 0, 0, 0, 0, i, ot⟩ = 7 by rw [HMC.out]; simp [mt]; exact fun e => HNE.out e.symm] at HM1
        unfold pkv at HM1
        dsimp only at HM1
        go_wp2_with (refine at_load44 (.tmp 14) rfl rfl _ ⟨true, a, 0, 0, 0, 0, 0, 0, 0, i, ot⟩ rfl K6.out.at ?_)
        refine HM1.out.mono ?_
        rintro e W7 ⟨A7, c7, rfl, -, -, -, hb⟩
        have B7 := Lib.hid (B6.out.trans (hb.mono B6.out.size))
        have R7 := Lib.hid (R6.out.below hb)
        obtain ⟨q0, q1, q2, -, -⟩ := (Q6.out.below hb).c
        dsimp only at q0 q1 q2
        have HM2 := Lib.hid (HMA.out ⟨true, a, 0, 0, 0, 0, 0, 0, 0, i, s⟩ A4 c4 W7 R7.out hc4)
        rw [show matC [⟨a, i, s, 1, 0⟩] ⟨true, a, 0, 0, 0, 0, 0, 0, 0, i, s⟩ = 0 by rw [HMC.out]; simp [mt]] at HM2
        unfold pkv at HM2
        dsimp only at HM2
        clear hb
        go_wp2_with fail
        refine HM2.out.mono ?_
        rintro e W8 ⟨A8, c8, rfl, -, -, -, hb⟩
        have B8 := Lib.hid (B7.out.trans (hb.mono B7.out.size))
        clear hb
        go_wp2_with fail
        go_ret
        exact ⟨rfl, B8.out⟩
end Go.Proofs.Ytjjbkhelnmdfnaa
