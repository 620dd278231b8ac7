/-
  CasesEnds's walk: a case that nobody says a word of is over in time. Conditions: what comes in lies in memory, and numbers have their bits.
-/
import Derived.BigGuard
import Derived.Test.YtmaaniokfpkbjaaCho
set_option linter.unusedSimpArgs false
set_option linter.unusedVariables false
namespace Go.Proofs.Ytmaaniokfpkbjaa
open Go.RowKit

theorem ends_ok {ss : List Ca} {nw h : Int} (hv : Vn (ss, nw)) (hn : nw ≤ 100000) (h0 : 0 ≤ h) (h1 : h ≤ 100) : ∀ y ∈ tkO h (nw + h) ss, y.g ≠ 0 ∧ (opB y = true → y.g = 1) := by
  intro y hy
  obtain ⟨x, hx, rfl⟩ := List.mem_map.1 hy
  have hr := hv.now x hx
  have hn0 := hv.n0
  dsimp only at hr hn0
  obtain ⟨g0, g1, r0, r1, d0, d1, k1, k2⟩ := rc_out (hv.v.r.all x hx)
  have hs : h ≤ si (nw + h) x.r := by unfold si; rw [cl_in (n := nw + h) (by omega) (by omega), cl_in r0 r1]; omega
  have key : (tk h (nw + h) x).g ≠ 0 := by
    unfold tk
    split
    · unfold mv; split <;> simp
    · rename_i hc
      intro e
      exact hc ⟨e, hs⟩
  refine ⟨key, fun ho => ?_⟩
  rcases (op_iff _).1 ho with h | h
  · exact absurd h key
  · exact h

set_option maxRecDepth 100000 in
set_option maxHeartbeats 8000000 in
theorem casesEnds_walk (x : Hc) (B : Option Addr) (ys : List Ac) (cy : Nat) (w : World) (hx : x.Ok) (hB : Rw eC w B ys) (hcy : ys.length ≤ cy) (hok : ∀ y ∈ ys, y.Ok) :
    Calls Try.prog 6 #[hv x, .slice B ys.length cy] w fun e w' => e = .returned (.bool true) ∧ Below w.heap.size w w' := by
  have B0 := Lib.hid (show Below w.heap.size w (w.alloc (Hcx x)) from (Below.refl _ w).alloc (Nat.le_refl _) _)
  have M0 := Lib.hid (show Hm (w.alloc (Hcx x)) w.heap.size x from hc_box w x)
  have RB0 := Lib.hid (hB.below B0.out)
  have HCH := Lib.hid fun W => choice_any x W hx
  obtain ⟨hh0, hh1⟩ := ch_h x
  have HSO := Lib.hid fun W (hR : Rw eC W B ys) => some_any (ch x) B ys cy W hR hok hcy
  obtain ⟨vn, v3⟩ := smO_ok (ch x).i (ch x).h (ys.take 80) (by rw [List.length_take]; omega)
  have v4 : (smO (ch x).i (ch x).h (ys.take 80)).2 ≤ 720 := by rw [List.length_take] at v3; omega
  generalize smO (ch x).i (ch x).h (ys.take 80) = s at *
  generalize ch x = C at *
  generalize ys.length = Ly at *
  have hn0 := vn.n0
  have hss := vn.v.r.few
  clear hB hok v3
  obtain ⟨ss, nw⟩ := s
  dsimp only at *
  have HEN := Lib.hid (ends_ok vn (by omega) (by omega) (show C.h ≤ 100 by omega))
  have HVT := Lib.hid (rg_ok (tick_ok (h := C.h) (t := C.h) vn (by omega) (by omega)).v.r)
  dsimp only at HVT
  have HTL := Lib.hid (show (tkO C.h (nw + C.h) ss).length = ss.length by unfold tkO; exact List.length_map _)
  have HTK := Lib.hid fun A c W hR hc => tick_any C (nw + C.h) A ss c W hR hc (by omega)
  have HOP := Lib.hid fun x W => open_any x W
  generalize tkO C.h (nw + C.h) ss = ts at *
  have HR9 := Lib.hid fun A c W hR hc => right_row A ts c W hR hc
  rw [HVT.out] at HR9
  have HAT := Lib.hid fun k (hk : k < ts.length) => at_of_lt hk
  rw [HTL.out] at HR9 HAT
  clear vn
  unfold hv Hcx cfv at *
  go_enter Try.func6, Try.ntmps6
  go_wp2_with fail
  generalize w.alloc (.cells #[.int .u8 x.a, .int .u8 x.b, .int .u8 x.c, .int .u8 x.d, .int .u8 x.e, .int .u8 x.f, .int .u8 x.g, .int .u8 x.h, .int .u8 x.i] 23) = W0 at *
  refine (awake_any W0).mono ?_
  rintro e W1 ⟨rfl, hb⟩
  have B1 := Lib.hid (B0.out.trans (hb.mono B0.out.size))
  have M1 := Lib.hid (M0.out.below hb)
  have RB1 := Lib.hid (RB0.out.below hb)
  clear hb M0 RB0
  go_wp2_with (refine at_load23 (.tmp 2) rfl rfl _ x rfl M1.out ?_)
  refine (HCH.out W1).mono ?_
  rintro e W2 ⟨rfl, hb⟩
  have B2a := Lib.hid (B1.out.trans (hb.mono B1.out.size))
  have RB2a := Lib.hid (RB1.out.below hb)
  have C2 := Lib.hid (cm_box W2 C)
  have B2 := Lib.hid (B2a.out.alloc B2a.out.size (Cfx C))
  have RB2 := Lib.hid (RB2a.out.below ((Below.refl _ W2).alloc (Nat.le_refl _) (Cfx C)))
  clear hb RB1 M1 B2a RB2a
  go_upto_region 4 with fail
  change Code.wp _ _ _ _ (W2.alloc (Cfx C))
  generalize W2.alloc (Cfx C) = W3 at *
  obtain ⟨bc, hbc⟩ : ∃ bc, W2.heap.size = bc := ⟨_, rfl⟩
  rw [hbc] at C2 ⊢
  clear hbc
  go_wp2_with (refine at_load27 (.tmp 5) rfl rfl _ C rfl C2.out.at ?_)
  refine (HSO.out W3 RB2.out).mono ?_
  rintro e W4 ⟨As, cs, rfl, hcs, hRs, hb⟩
  dsimp only at hcs hRs
  have B4 := Lib.hid (B2.out.trans (hb.mono B2.out.size))
  have C4 := Lib.hid (C2.out.below hb)
  have RS4 := Lib.hid hRs
  have HCS := Lib.hid hcs
  clear hb hRs hcs B2 C2
  dsimp only
  obtain ⟨L, hL⟩ : ∃ n, ss.length = n := ⟨_, rfl⟩
  have HL := Lib.hid hL
  rw [hL] at hss HTK HCS HTL HR9 HAT ⊢
  clear hL
  have k7 := C4.out.c7
  go_wp2_with (refine at_load27 (.tmp 5) rfl rfl _ C rfl C4.out.at ?_)
  refine (HTK.out As cs W4 RS4.out HCS.out).mono ?_
  rintro e W5 ⟨v5, rfl, ho5, hb⟩
  obtain ⟨A5, c5, rfl, hc5, -, -, hR5, -⟩ := own_rw (E := eA) ho5 (by rw [HTL.out]; omega)
  rw [HTL.out] at hc5 ⊢
  have B5 := Lib.hid (B4.out.trans (hb.mono B4.out.size))
  have R5 := Lib.hid hR5
  clear hb ho5 hR5 C4 k7
  have hL9 : L ≤ 140737488355328 := by omega
  go_wp2_with fail
  go_loopw [29] (fun i wr => ∃ k : Nat, i = .int .i64 k ∧ k ≤ L ∧ Hid (Below W5.heap.size W5 wr)) (fun i _ => L - (intOf i).toNat)
  case atStart => exact ⟨0, rfl, by omega, Lib.hid (Below.refl _ _)⟩
  case round =>
    obtain ⟨k, rfl, hk, HW⟩ := hrel
    by_cases hkL : k < L
    · obtain ⟨z, hz⟩ := HAT.out k hkL
      obtain ⟨y, rfl⟩ := rw_some R5.out (by rw [HTL.out]; omega)
      have hat := (R5.out.below HW.out).at hz
      obtain ⟨z1, z2⟩ := HEN.out z (List.mem_of_getElem? hz)
      have BB := Lib.hid (show Below W5.heap.size W5 (wr.alloc (Cax z)) from HW.out.alloc HW.out.size _)
      have Q1 := Lib.hid (qb_box wr z)
      have HO := Lib.hid (HOP.out z)
      have e0 : (z.g == 0) = false := by simpa using z1
      obtain ⟨ob, hob⟩ : ∃ b, opB z = b := ⟨_, rfl⟩
      rw [hob] at HO z2
      have Z2 := Lib.hid z2
      have hsz : wr.heap.size < (wr.alloc (Cax z)).heap.size := by simp
      clear hz z1 hob z2
      unfold cav Cax at *
      go_upto_region 9 with (refine at_load37 (.tmp 31) rfl rfl (y.add (k * 4)) z rfl hat ?_)
      generalize wr.alloc (.cells #[.int .u32 z.a, .int .i64 z.r, .int .i64 z.d, .int .i64 z.g] 37) = W at *
      clear hat
      obtain ⟨q0, q1, q2, q3⟩ := Q1.out.c
      go_wp2_with fail
      refine (HO.out _).mono ?_
      rintro e w1 ⟨rfl, hb⟩
      have BC := Lib.hid (BB.out.trans (hb.mono BB.out.size))
      have Q2 := Lib.hid (Q1.out.below hb)
      have hsz2 : wr.heap.size < w1.heap.size := Nat.lt_of_lt_of_le hsz hb.size
      clear hb q0 q1 q2 q3
      obtain ⟨q0, q1, q2, q3⟩ := Q2.out.c
      cases ob
      · go_wp2_with fail
        go_roundw
        case rel => exact ⟨k + 1, by go_num, by omega, BC⟩
        case measure => simp [intOf]; omega
      · have e1 : (z.g != 1) = false := by rw [Z2.out rfl]; rfl
        go_wp2_with fail
        go_roundw
        case rel => exact ⟨k + 1, by go_num, by omega, BC⟩
        case measure => simp [intOf]; omega
    · obtain rfl : k = L := by omega
      have R6 := Lib.hid (R5.out.below HW.out)
      have B6 := Lib.hid (B5.out.trans (HW.out.mono B5.out.size))
      go_wp2_with fail
      refine (HR9.out A5 c5 wr R6.out hc5).mono ?_
      rintro e W7 ⟨rfl, hb⟩
      have B7 := Lib.hid (B6.out.trans (hb.mono B6.out.size))
      clear hb
      go_wp2_with fail
      go_ret
      exact ⟨rfl, B7.out⟩
end Go.Proofs.Ytmaaniokfpkbjaa
