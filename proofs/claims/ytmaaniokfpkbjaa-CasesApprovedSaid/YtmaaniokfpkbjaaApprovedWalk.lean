/-
  CasesApproved's walk: a case that is approved waits until it is done, or cancelled. Conditions: what comes in lies in memory, and numbers have their bits.
-/
import Derived.BigGuard
import Derived.Test.YtmaaniokfpkbjaaCho
set_option linter.unusedSimpArgs false
set_option linter.unusedVariables false
namespace Go.Proofs.Ytmaaniokfpkbjaa
open Go.RowKit

set_option maxRecDepth 100000 in
set_option maxHeartbeats 8000000 in
theorem casesApproved_walk (x : Hc) (av n : Int) (w : World) (hx : x.Ok) (ha0 : 0 ≤ av) (ha1 : av < 256) (hn0 : 0 ≤ n) (hn1 : n < 65536) :
    Calls Try.prog 8 #[hv x, .int .u8 av, .int .u16 n] w fun e w' => e = .returned (.bool true) ∧ Below w.heap.size w w' := by
  have B0 := Lib.hid (show Below w.heap.size w (w.alloc (Hcx x)) from (Below.refl _ w).alloc (Nat.le_refl _) _)
  have M0 := Lib.hid (show Hm (w.alloc (Hcx x)) w.heap.size x from hc_box w x)
  have HCH := Lib.hid fun W => choice_any x W hx
  have HNR := Lib.hid fun W => near_any av W ha0 ha1
  generalize ch x = C at *
  generalize nr av = b at *
  have hcn := cl_in (n := n) hn0 (by omega)
  have H1 := Lib.hid fun W => raise_any C 0 b none [] 0 W (Rw.nil W none) (by simp) (by simp)
  have H2 := Lib.hid fun A cap W hR hc => done_any 0 b A [nw b 0] cap W hR hc (by simp)
  have H3 := Lib.hid fun A cap W hR hc => approve_any 0 b A [nw b 0] cap W hR hc (by simp)
  have H4 := Lib.hid fun A cap W hR hc => tick_any C n A [⟨b, 0, 0, 1⟩] cap W hR hc (by simp)
  have H5 := Lib.hid fun A cap W hR hc => reject_any n b A [⟨b, 0, 0, 1⟩] cap W hR hc (by simp)
  have H6 := Lib.hid fun A cap W hR hc => done_any n b A [⟨b, 0, 0, 1⟩] cap W hR hc (by simp)
  have H7 := Lib.hid fun A cap W hR hc => cancel_any n b A [⟨b, 0, 0, 1⟩] cap W hR hc (by simp)
  rw [rs_nil] at H1
  rw [show stO (fun g => g == 1) 5 0 b [nw b 0] = ([], 8) by rw [st_one (x := nw b 0) (b := b) rfl (op_nw b 0)]; rfl] at H2
  rw [show stO (fun g => g == 0) 1 0 b [nw b 0] = ([⟨b, 0, 0, 1⟩], 0) by rw [st_one (x := nw b 0) (b := b) rfl (op_nw b 0)]; rfl] at H3
  rw [tk_app] at H4
  rw [show stO (fun g => g == 0) 2 n b [⟨b, 0, 0, 1⟩] = ([], 8) by rw [st_one (x := ⟨b, 0, 0, 1⟩) (b := b) rfl rfl]; rfl] at H5
  rw [show stO (fun g => g == 1) 5 n b [⟨b, 0, 0, 1⟩] = ([⟨b, 0, n, 5⟩], 0) by rw [st_one (x := ⟨b, 0, 0, 1⟩) (b := b) rfl rfl]; rw [← congrArg (fun d => ([(⟨b, 0, d, 5⟩ : Ca)], (0 : Int))) hcn]; rfl] at H6
  rw [show stO (fun _ => true) 4 n b [⟨b, 0, 0, 1⟩] = ([⟨b, 0, n, 4⟩], 0) by rw [st_one (x := ⟨b, 0, 0, 1⟩) (b := b) rfl rfl]; rw [← congrArg (fun d => ([(⟨b, 0, d, 4⟩ : Ca)], (0 : Int))) hcn]; rfl] at H7
  have e6 := Lib.hid (show eqr ⟨b, 0, n, 5⟩ ⟨b, 0, n, 5⟩ = true by simp [eqr])
  generalize nw b 0 = p1 at *
  generalize (⟨b, 0, 0, 1⟩ : Ca) = p2 at *
  obtain ⟨p7, hp7⟩ : ∃ p : Ca, (⟨b, 0, n, 4⟩ : Ca) = p := ⟨_, rfl⟩
  have e7 := Lib.hid (show p7.g = 4 by rw [← hp7])
  rw [hp7] at H7
  simp only [List.length_cons, List.length_nil, Nat.zero_add, Nat.reduceAdd] at H1 H2 H3 H4 H5 H6 H7
  clear hcn hp7
  unfold hv Hcx cfv at *
  go_enter Try.func8, Try.ntmps8
  go_wp2_with fail
  generalize w.alloc (.cells #[.int .u8 x.a, .int .u8 x.b, .int .u8 x.c, .int .u8 x.d, .int .u8 x.e, .int .u8 x.f, .int .u8 x.g, .int .u8 x.h, .int .u8 x.i] 23) = W0 at *
  refine (awake_any W0).mono ?_
  rintro e W1 ⟨rfl, hb⟩
  have B1 := Lib.hid (B0.out.trans (hb.mono B0.out.size))
  have M1 := Lib.hid (M0.out.below hb)
  clear hb M0
  go_wp2_with (refine at_load23 (.tmp 3) rfl rfl _ x rfl M1.out ?_)
  refine (HCH.out W1).mono ?_
  rintro e W2 ⟨rfl, hb⟩
  have B2a := Lib.hid (B1.out.trans (hb.mono B1.out.size))
  have CW3 := Lib.hid (cm_box W2 C)
  have BW3 := Lib.hid (B2a.out.alloc B2a.out.size (Cfx C))
  clear hb M1 B2a
  go_wp2_with fail
  refine (HNR.out _).mono ?_
  rintro e w3 ⟨rfl, rfl⟩
  go_upto_region 4 with fail
  change Code.wp _ _ _ _ (W2.alloc (Cfx C))
  generalize W2.alloc (Cfx C) = W3 at *
  obtain ⟨bc, hbc⟩ : ∃ bc, W2.heap.size = bc := ⟨_, rfl⟩
  rw [hbc] at CW3 ⊢
  clear hbc
  go_wp2_with (refine at_load27 (.tmp 7) rfl rfl _ C rfl CW3.out.at ?_)
  refine (H1.out W3).mono ?_
  rintro e W4 ⟨A1, c1, rfl, hc1, hR1, hb⟩
  try dsimp only at hc1 hR1
  try simp only [List.length_cons, List.length_nil, Nat.zero_add, Nat.reduceAdd] at hc1 ⊢
  have BW4 := Lib.hid (BW3.out.trans (hb.mono BW3.out.size))
  have CW4 := Lib.hid (CW3.out.below hb)
  have R1 := Lib.hid hR1
  have K1 := Lib.hid hc1
  clear hb hR1 hc1 CW3
  go_wp2_with fail
  refine (H2.out A1 c1 W4 R1.out K1.out).mono ?_
  rintro e W5 ⟨A2, c2, rfl, hc2, hR2, hb⟩
  try dsimp only at hc2 hR2
  try simp only [List.length_cons, List.length_nil, Nat.zero_add, Nat.reduceAdd] at hc2 ⊢
  have BW5 := Lib.hid (BW4.out.trans (hb.mono BW4.out.size))
  have CW5 := Lib.hid (CW4.out.below hb)
  have R2 := Lib.hid hR2
  have K2 := Lib.hid hc2
  have R1W5 := Lib.hid (R1.out.below hb)
  clear hb hR2 hc2 CW4
  go_wp2_with fail
  refine (H3.out A1 c1 W5 R1W5.out K1.out).mono ?_
  rintro e W6 ⟨A3, c3, rfl, hc3, hR3, hb⟩
  try dsimp only at hc3 hR3
  try simp only [List.length_cons, List.length_nil, Nat.zero_add, Nat.reduceAdd] at hc3 ⊢
  have BW6 := Lib.hid (BW5.out.trans (hb.mono BW5.out.size))
  have CW6 := Lib.hid (CW5.out.below hb)
  have R3 := Lib.hid hR3
  have K3 := Lib.hid hc3
  clear hb hR3 hc3 CW5
  go_wp2_with (refine at_load27 (.tmp 7) rfl rfl _ C rfl CW6.out.at ?_)
  refine (H4.out A3 c3 W6 R3.out K3.out).mono ?_
  rintro e W7 ⟨v4, rfl, ho4, hb⟩
  obtain ⟨A4, c4, rfl, hc4, -, -, hR4, -⟩ := own_rw (E := eA) ho4 (by simp)
  try dsimp only at hc4 hR4
  try simp only [List.length_cons, List.length_nil, Nat.zero_add, Nat.reduceAdd] at hc4 ⊢
  have BW7 := Lib.hid (BW6.out.trans (hb.mono BW6.out.size))
  have CW7 := Lib.hid (CW6.out.below hb)
  have R4 := Lib.hid hR4
  have K4 := Lib.hid hc4
  clear hb hR4 hc4 CW6 ho4
  go_wp2_with fail
  refine (H5.out A4 c4 W7 R4.out K4.out).mono ?_
  rintro e W8 ⟨A5, c5, rfl, hc5, hR5, hb⟩
  try dsimp only at hc5 hR5
  try simp only [List.length_cons, List.length_nil, Nat.zero_add, Nat.reduceAdd] at hc5 ⊢
  have BW8 := Lib.hid (BW7.out.trans (hb.mono BW7.out.size))
  have CW8 := Lib.hid (CW7.out.below hb)
  have R5 := Lib.hid hR5
  have K5 := Lib.hid hc5
  have R4W8 := Lib.hid (R4.out.below hb)
  clear hb hR5 hc5 CW7
  go_wp2_with fail
  refine (H6.out A4 c4 W8 R4W8.out K4.out).mono ?_
  rintro e W9 ⟨A6, c6, rfl, hc6, hR6, hb⟩
  try dsimp only at hc6 hR6
  try simp only [List.length_cons, List.length_nil, Nat.zero_add, Nat.reduceAdd] at hc6 ⊢
  have BW9 := Lib.hid (BW8.out.trans (hb.mono BW8.out.size))
  have CW9 := Lib.hid (CW8.out.below hb)
  have R6 := Lib.hid hR6
  have K6 := Lib.hid hc6
  have R4W9 := Lib.hid (R4W8.out.below hb)
  clear hb hR6 hc6 CW8
  go_wp2_with fail
  refine (H7.out A4 c4 W9 R4W9.out K4.out).mono ?_
  rintro e WX ⟨A7, c7, rfl, hc7, hR7, hb⟩
  try dsimp only at hc7 hR7
  try simp only [List.length_cons, List.length_nil, Nat.zero_add, Nat.reduceAdd] at hc7 ⊢
  have BWX := Lib.hid (BW9.out.trans (hb.mono BW9.out.size))
  have CWX := Lib.hid (CW9.out.below hb)
  have R7 := Lib.hid hR7
  have K7 := Lib.hid hc7
  have R6WX := Lib.hid (R6.out.below hb)
  clear hb hR7 hc7 CW9
  obtain ⟨y6, rfl⟩ := rw_some R6WX.out (by simp)
  obtain ⟨y7, rfl⟩ := rw_some R7.out (by simp)
  have hat := R6WX.out.at (q := 0) (x := ⟨b, 0, n, 5⟩) rfl
  rw [show y6.add (0 * eA.N) = y6 by simp [Addr.add]] at hat
  obtain ⟨-, -, g7⟩ := rw_f R7.out (k := 0) (x := p7) rfl
  rw [show y7.add (0 * 4) = y7 by simp [Addr.add], e7.out] at g7
  have k6 := K6.out
  have k7 := K7.out
  have k6' : 0 < c6 := by omega
  have k7' : 0 < c7 := by omega
  go_upto_region 13 with fail
  go_wp2_with (first | (refine at_load37 (.tmp 96) rfl rfl y6 ⟨b, 0, n, 5⟩ rfl hat ?_) | (refine at_eql37g (.tmp 97) (.tmp 101) ⟨b, 0, n, 5⟩ ⟨b, 0, n, 5⟩ ?_ ?_ ?_ ?_ ?_; rotate_left; (with_reducible rfl); rfl; rfl; rotate_left; kernel_rfl; rw [e6.out]))
  go_ret
  exact ⟨rfl, BWX.out⟩
end Go.Proofs.Ytmaaniokfpkbjaa
