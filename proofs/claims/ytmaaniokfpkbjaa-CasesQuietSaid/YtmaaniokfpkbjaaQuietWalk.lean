/-
  CasesQuiet's walk: what was rejected is not raised for as long as it is quiet, and may be then. Conditions: what comes in lies in memory, and numbers have their bits.
-/
import Derived.BigGuard
import Derived.Test.YtmaaniokfpkbjaaCho
set_option linter.unusedSimpArgs false
set_option linter.unusedVariables false
namespace Go.Proofs.Ytmaaniokfpkbjaa
open Go.RowKit

set_option maxRecDepth 100000 in
set_option maxHeartbeats 8000000 in
theorem casesQuiet_walk (x : Hc) (av t l : Int) (w : World) (hx : x.Ok) (ha0 : 0 ≤ av) (ha1 : av < 256) (ht0 : 0 ≤ t) (ht1 : t < 256) (hl0 : 0 ≤ l) (hl1 : l < 256) :
    Calls Try.prog 7 #[hv x, .int .u8 av, .int .u8 t, .int .u8 l] w fun e w' => e = .returned (.bool true) ∧ Below w.heap.size w w' := by
  have B0 := Lib.hid (show Below w.heap.size w (w.alloc (Hcx x)) from (Below.refl _ w).alloc (Nat.le_refl _) _)
  have M0 := Lib.hid (show Hm (w.alloc (Hcx x)) w.heap.size x from hc_box w x)
  have HCH := Lib.hid fun W => choice_any x W hx
  have HNR := Lib.hid fun W => near_any av W ha0 ha1
  obtain ⟨i0, i1⟩ := ch_i x
  generalize ch x = C at *
  generalize nr av = b at *
  have H1 := Lib.hid fun W => raise_any C t b none [] 0 W (Rw.nil W none) (by simp) (by simp)
  have H2 := Lib.hid fun A cap W hR hc => reject_any (t + 1) b A [nw b t] cap W hR hc (by simp)
  have H3 := Lib.hid fun A cap W hR hc => raise_any C (t + 1 + l) b A [⟨b, cl t, cl (t + 1), 2⟩] cap W hR hc (by simp)
  have H4 := Lib.hid fun A cap W hR => find_any b A [⟨b, cl t, cl (t + 1), 2⟩, nw b (t + 1 + l)] cap W hR
  rw [rs_nil] at H1
  rw [show stO (fun g => g == 0) 2 (t + 1) b [nw b t] = ([⟨b, cl t, cl (t + 1), 2⟩], 0) by rw [st_one (x := nw b t) (b := b) rfl (op_nw b t)]; rfl] at H2
  rw [rs_rej, show wi (t + 1 + l) (cl (t + 1)) C.i = decide (l < C.i) by
    unfold wi si
    rw [cl_in (n := t + 1) (by omega) (by omega), cl_in (n := t + 1 + l) (by omega) (by omega), cl_in (n := t + 1) (by omega) (by omega), decide_eq_true (by omega), Bool.true_and]
    exact decide_eq_decide.2 ⟨fun h => by omega, fun h => by omega⟩] at H3
  rw [fnd_two] at H4
  generalize nw b t = p1 at *
  generalize (⟨b, cl t, cl (t + 1), 2⟩ : Ca) = p2 at *
  generalize nw b (t + 1 + l) = p3 at *
  simp only [List.length_cons, List.length_nil, Nat.zero_add, Nat.reduceAdd] at H1 H2 H3 H4
  dsimp only [fnI] at H4
  unfold hv Hcx cfv at *
  go_enter Try.func7, Try.ntmps7
  go_wp2_with fail
  generalize w.alloc (.cells #[.int .u8 x.a, .int .u8 x.b, .int .u8 x.c, .int .u8 x.d, .int .u8 x.e, .int .u8 x.f, .int .u8 x.g, .int .u8 x.h, .int .u8 x.i] 23) = W0 at *
  refine (awake_any W0).mono ?_
  rintro e W1 ⟨rfl, hb⟩
  have B1 := Lib.hid (B0.out.trans (hb.mono B0.out.size))
  have M1 := Lib.hid (M0.out.below hb)
  clear hb M0
  go_wp2_with (refine at_load23 (.tmp 4) rfl rfl _ x rfl M1.out ?_)
  refine (HCH.out W1).mono ?_
  rintro e W2 ⟨rfl, hb⟩
  have B2a := Lib.hid (B1.out.trans (hb.mono B1.out.size))
  have C2 := Lib.hid (cm_box W2 C)
  have B2 := Lib.hid (B2a.out.alloc B2a.out.size (Cfx C))
  clear hb M1 B2a
  go_wp2_with fail
  refine (HNR.out _).mono ?_
  rintro e w3 ⟨rfl, rfl⟩
  go_upto_region 4 with fail
  change Code.wp _ _ _ _ (W2.alloc (Cfx C))
  generalize W2.alloc (Cfx C) = W3 at *
  obtain ⟨bc, hbc⟩ : ∃ bc, W2.heap.size = bc := ⟨_, rfl⟩
  rw [hbc] at C2 ⊢
  clear hbc
  go_wp2_with (refine at_load27 (.tmp 9) rfl rfl _ C rfl C2.out.at ?_)
  refine (H1.out W3).mono ?_
  rintro e W4 ⟨A1, c1, rfl, hc1, hR1, hb⟩
  try dsimp only at hc1 hR1
  try simp only [List.length_cons, List.length_nil, Nat.zero_add, Nat.reduceAdd] at hc1 ⊢
  have B4 := Lib.hid (B2.out.trans (hb.mono B2.out.size))
  have C4 := Lib.hid (C2.out.below hb)
  have R1 := Lib.hid hR1
  have K1 := Lib.hid hc1
  clear hb hR1 hc1 C2
  go_wp2_with fail
  refine (H2.out A1 c1 W4 R1.out K1.out).mono ?_
  rintro e W5 ⟨A2, c2, rfl, hc2, hR2, hb⟩
  try dsimp only at hc2 hR2
  try simp only [List.length_cons, List.length_nil, Nat.zero_add, Nat.reduceAdd] at hc2 ⊢
  have B5 := Lib.hid (B4.out.trans (hb.mono B4.out.size))
  have C5 := Lib.hid (C4.out.below hb)
  have R2 := Lib.hid hR2
  have K2 := Lib.hid hc2
  clear hb hR2 hc2 C4
  by_cases hlq : l < C.i
  · rw [if_pos (by simpa using hlq)] at H3
    go_wp2_with (refine at_load27 (.tmp 9) rfl rfl _ C rfl C5.out.at ?_)
    refine (H3.out A2 c2 W5 R2.out K2.out).mono ?_
    rintro e W6 ⟨A3, c3, rfl, -, -, hb⟩
    try simp only [List.length_cons, List.length_nil, Nat.zero_add, Nat.reduceAdd]
    have B6 := Lib.hid (B5.out.trans (hb.mono B5.out.size))
    have C6 := Lib.hid (C5.out.below hb)
    clear hb C5
    have k8 := C6.out.c8
    go_wp2_with fail
    go_ret
    exact ⟨rfl, B6.out⟩
  · rw [if_neg (by simpa using hlq)] at H3
    have hlq' : decide (l < C.i) = false := decide_eq_false hlq
    go_wp2_with (refine at_load27 (.tmp 9) rfl rfl _ C rfl C5.out.at ?_)
    refine (H3.out A2 c2 W5 R2.out K2.out).mono ?_
    rintro e W6 ⟨A3, c3, rfl, hc3, hR3, hb⟩
    try dsimp only at hc3 hR3
    try simp only [List.length_cons, List.length_nil, Nat.zero_add, Nat.reduceAdd] at hc3 ⊢
    have B6 := Lib.hid (B5.out.trans (hb.mono B5.out.size))
    have C6 := Lib.hid (C5.out.below hb)
    have R3 := Lib.hid hR3
    clear hb C5 hR3 hc3
    have k8 := C6.out.c8
    go_wp2_with fail
    refine (H4.out A3 c3 W6 R3.out).mono ?_
    rintro e W7 ⟨rfl, hb⟩
    have B7 := Lib.hid (B6.out.trans (hb.mono B6.out.size))
    clear hb k8
    go_wp2_with fail
    go_ret
    exact ⟨rfl, B7.out⟩
end Go.Proofs.Ytmaaniokfpkbjaa
