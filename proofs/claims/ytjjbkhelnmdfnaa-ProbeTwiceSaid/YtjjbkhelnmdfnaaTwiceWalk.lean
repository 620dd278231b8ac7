/-
  ProbeTwice's walk: who is asked again was asked ahead, by the same number, once more. Conditions: what comes in lies in memory, and numbers have their bits.
-/
import Derived.BigGuard
import Derived.Test.YtjjbkhelnmdfnaaRightWalk
set_option linter.unusedSimpArgs false
set_option linter.unusedVariables false
namespace Go.Proofs.Ytjjbkhelnmdfnaa
open Go.RowKit

/-- Whether a question stands in a row. -/
def inQ (xs : List Pr) (p : Pr) : Bool := xs.any fun q => eqr p q
theorem inQ_take {xs : List Pr} {p : Pr} {k : Nat} {x : Pr} (hx : xs[k]? = some x) : inQ (xs.take (k + 1)) p = (inQ (xs.take k) p || eqr p x) := by
  unfold inQ
  rw [List.take_add_one, hx]
  simp
theorem inQ_mem {xs : List Pr} {p : Pr} (h : p ∈ xs) : inQ xs p = true := List.any_eq_true.2 ⟨p, h, by simp [eqr]⟩
/-- Whether a question was asked ahead, once less. -/
def wq (p q : Pr) : Bool := (p.a == q.a) && ((p.i == q.i) && ((p.s == q.s) && (p.n == q.n + 1)))
def wasQ (xs : List Pr) (p : Pr) : Bool := xs.any fun q => wq p q
theorem wasQ_take {xs : List Pr} {p : Pr} {k : Nat} {x : Pr} (hx : xs[k]? = some x) : wasQ (xs.take (k + 1)) p = (wasQ (xs.take k) p || wq p x) := by
  unfold wasQ
  rw [List.take_add_one, hx]
  simp
theorem wasQ_mem {xs : List Pr} {x : Pr} {now : Int} (h : x ∈ xs) : wasQ xs (nx now x) = true := List.any_eq_true.2 ⟨x, h, by simp [wq, nx]⟩

set_option maxRecDepth 100000 in
set_option maxHeartbeats 16000000 in
theorem probeTwice_walk (x : Hc) (B : Option Addr) (ys : List Ac) (cy : Nat) (rm : Int) (w : World) (hx : x.Ok) (hB : Rw eC w B ys) (hcy : ys.length ≤ cy) (hok : ∀ y ∈ ys, y.Ok) (hr0 : 0 ≤ rm) (hr1 : rm < 256) :
    Calls Try.prog 8 #[hv x, .slice B ys.length cy, .int .u8 rm] w fun e w' => e = .returned (.bool true) ∧ Below w.heap.size w w' := by
  have B0 := Lib.hid (show Below w.heap.size w (w.alloc (Hcx x)) from (Below.refl _ w).alloc (Nat.le_refl _) _)
  have M0 := Lib.hid (show Hm (w.alloc (Hcx x)) w.heap.size x from hc_box w x)
  have RB0 := Lib.hid (hB.below B0.out)
  have HCH := Lib.hid fun W => choice_any x W hx
  obtain ⟨hg0, hg1⟩ := ch_g x
  obtain ⟨hf0, hf1⟩ := ch_f x
  have HSO := Lib.hid fun W (hR : Rw eC W B ys) => some_any (ch x) B ys cy W hR hok hcy (by omega)
  obtain ⟨vn, v3⟩ := smO_ok (ch x).f (ch x).g (by omega) (ys.take 60) (fun y hy => hok y (List.mem_of_mem_take hy)) (by rw [List.length_take]; omega)
  have v4 : (smO (ch x).f (ch x).g (ys.take 60)).2 ≤ 240 := by rw [List.length_take] at v3; omega
  generalize smO (ch x).f (ch x).g (ys.take 60) = s at *
  generalize ch x = C at *
  generalize ys.length = Ly at *
  have hn0 := vn.n0
  have HV := Lib.hid vn.v
  have hss := vn.v.r.few
  clear hB hok v3 vn
  obtain ⟨ss, nw⟩ := s
  dsimp only at *
  have HLT := Lib.hid fun A cs W hR => late_any C (nw + C.f) rm A ss cs W hR (by omega) (V.n HV.out)
  have HVL := Lib.hid (lt_ok (wt := C.f) (ag := C.g) (now := nw + C.f) (room := rm) HV.out (by omega))
  have HM2 := Lib.hid (fun p => @lt_mem2 C.f C.g (nw + C.f) rm ss p)
  obtain ⟨l1, l2⟩ := lt_len C.f C.g (nw + C.f) rm ss
  have l3 := lt_room (wt := C.f) (ag := C.g) (now := nw + C.f) (room := rm) ss
  generalize ltO C.f C.g (nw + C.f) rm ss = S at *
  obtain ⟨S1, S2⟩ := S
  dsimp only at *
  obtain ⟨Ls, hLs⟩ : ∃ n, ss.length = n := ⟨_, rfl⟩
  have HLS := Lib.hid hLs
  rw [hLs] at hss HLT l1
  clear hLs
  unfold hv Hcx cfv at *
  go_enter Try.func8, Try.ntmps8
  go_wp2_with fail
  generalize w.alloc (.cells #[.int .u8 x.a, .int .u8 x.b, .int .u8 x.c, .int .u8 x.d, .int .u8 x.e, .int .u8 x.f, .int .u8 x.g, .int .u8 x.h, .int .u8 x.i] 23) = W0 at *
  refine (awake_any W0).mono ?_
  rintro e W1 ⟨rfl, hb⟩
  have B1 := Lib.hid (B0.out.trans (hb.mono B0.out.size))
  have M1 := Lib.hid (M0.out.below hb)
  have RB1 := Lib.hid (RB0.out.below hb)
  clear hb M0 RB0
  go_wp2_with (refine at_load23 (.tmp 3) rfl rfl _ x rfl M1.out ?_)
  refine (HCH.out W1).mono ?_
  rintro e W2 ⟨rfl, hb⟩
  have B2a := Lib.hid (B1.out.trans (hb.mono B1.out.size))
  have RB2a := Lib.hid (RB1.out.below hb)
  have C2 := Lib.hid (cm_box W2 C)
  have B2 := Lib.hid (B2a.out.alloc B2a.out.size (Cfx C))
  have RB2 := Lib.hid (RB2a.out.below ((Below.refl _ W2).alloc (Nat.le_refl _) (Cfx C)))
  clear hb RB1 M1 B2a RB2a
  go_upto_region 4 with fail
  change Code.wp _ _ _ _ (W2.alloc (Cfx C))
  generalize W2.alloc (Cfx C) = W3 at *
  obtain ⟨bc, hbc⟩ : ∃ bc, W2.heap.size = bc := ⟨_, rfl⟩
  rw [hbc] at C2 ⊢
  clear hbc
  go_wp2_with (refine at_load27 (.tmp 7) rfl rfl _ C rfl C2.out.at ?_)
  refine (HSO.out W3 RB2.out).mono ?_
  rintro e W4 ⟨As, cs, rfl, hcs, hRs, hb⟩
  dsimp only at hcs hRs
  have B4 := Lib.hid (B2.out.trans (hb.mono B2.out.size))
  have C4 := Lib.hid (C2.out.below hb)
  have RS4 := Lib.hid hRs
  clear hb hRs hcs B2 C2
  dsimp only
  rw [HLS.out]
  have c5 := C4.out.c5
  go_wp2_with (refine at_load27 (.tmp 7) rfl rfl _ C rfl C4.out.at ?_)
  refine (HLT.out As cs W4 RS4.out).mono ?_
  rintro e W5 ⟨A1, c1, A2, c2, rfl, hc1, hc2, hR1, hR2, hb⟩
  dsimp only at hc1 hc2 hR1 hR2
  have B5 := Lib.hid (B4.out.trans (hb.mono B4.out.size))
  have C5 := Lib.hid (C4.out.below hb)
  have RS5 := Lib.hid (RS4.out.below hb)
  have RL5 := Lib.hid hR1
  have RA5 := Lib.hid hR2
  have HC1 := Lib.hid hc1
  clear hb hR1 hR2 hc1 hc2 B4 C4 RS4 c5 HLT
  dsimp only
  obtain ⟨n1, hn1⟩ : ∃ n, S1.length = n := ⟨_, rfl⟩
  obtain ⟨n2, hn2⟩ : ∃ n, S2.length = n := ⟨_, rfl⟩
  have HN1 := Lib.hid hn1
  have HN2 := Lib.hid hn2
  rw [hn1] at l1 l2 HC1 ⊢
  rw [hn2] at l2 l3 ⊢
  clear hn1 hn2
  have g1 : decide (Ls < n1) = false := decide_eq_false (by omega)
  have g2 : decide (rm < n2) = false := decide_eq_false (by omega)
  have hn16 : n1 ≤ 16 := by omega
  have hn26 : n2 ≤ 16 := by omega
  clear l3
  go_wp2_with fail
  go_loopw [56] (fun i wr => ∃ k : Nat, i = .int .i64 k ∧ k ≤ n2 ∧ Hid (Below W5.heap.size W5 wr)) (fun i _ => n2 - (intOf i).toNat)
  case atStart => exact ⟨0, rfl, by omega, Lib.hid (Below.refl _ _)⟩
  case round =>
    obtain ⟨k, rfl, hk, HW⟩ := hrel
    by_cases hkn : k < n2
    · obtain ⟨p, hp⟩ := at_of_lt (xs := S2) (k := k) (by rw [HN2.out]; exact hkn)
      obtain ⟨y2, rfl⟩ := rw_some RA5.out (by rw [HN2.out]; omega)
      have hat := (RA5.out.below HW.out).at hp
      obtain ⟨hpl, q, hq, hpq, hqw, hqn⟩ := HM2.out p (List.mem_of_getElem? hp)
      have HIN := Lib.hid (inQ_mem hpl)
      have HWS := Lib.hid (show wasQ ss p = true by rw [hpq]; exact wasQ_mem hq)
      have hpt : p.t = nw + C.f := by rw [hpq]; exact cl_in (by omega) (by omega)
      have hpn : p.n ≤ C.g := by rw [hpq]; show q.n + 1 ≤ C.g; omega
      have hpn0 : 0 ≤ p.n := by
        have := (V.n HV.out q hq).1
        rw [hpq]; show 0 ≤ q.n + 1; omega
      have hpn' : decide (C.g < p.n) = false := decide_eq_false (by omega)
      have HPT := Lib.hid hpt
      have Q1 := Lib.hid (qb_box wr p)
      have W1b := Lib.hid (show Below W5.heap.size W5 (wr.alloc (Prx p)) from HW.out.alloc HW.out.size _)
      have RL1 := Lib.hid (RL5.out.below W1b.out)
      have RS1 := Lib.hid (RS5.out.below W1b.out)
      have C1 := Lib.hid (C5.out.below W1b.out)
      have hsz : wr.heap.size < (wr.alloc (Prx p)).heap.size := by simp
      clear hp hpl hq hpq hqw hqn hpt hpn q
      unfold Prx at *
      obtain ⟨wo, rfl⟩ : ∃ wo, wo = wr := ⟨_, rfl⟩
      go_upto_region 11 with (refine at_load37 (.tmp 58) rfl rfl (y2.add (k * 5)) p rfl hat ?_)
      generalize wo.alloc (.cells #[.int .u32 p.a, .int .i64 p.i, .int .i64 p.s, .int .i64 p.t, .int .i64 p.n] 37) = Wp at *
      generalize wo.heap.size = bp at *
      clear hat
      go_wp2_with fail
      go_loopw [14, 62] (fun v i wr => ∃ j : Nat, i = .int .i64 j ∧ j ≤ n1 ∧ v = .bool (inQ (S1.take j) p) ∧ Hid (Below Wp.heap.size Wp wr)) (fun _ i _ => n1 - (intOf i).toNat)
      case atStart => exact ⟨0, rfl, by omega, rfl, Lib.hid (Below.refl _ _)⟩
      case round =>
        obtain ⟨j, rfl, hj, rfl, HI⟩ := hrel
        by_cases hjn : j < n1
        · obtain ⟨z, hz⟩ := at_of_lt (xs := S1) (k := j) (by rw [HN1.out]; exact hjn)
          obtain ⟨y1, rfl⟩ := rw_some RL1.out (by rw [HN1.out]; omega)
          have hat := (RL1.out.below HI.out).at hz
          have HT := Lib.hid (inQ_take (p := p) hz)
          have QP := Lib.hid ((Q1.out.below HI.out).below ((Below.refl _ wr).alloc (Nat.le_refl _) (Prx z)))
          have QZ := Lib.hid (qb_box wr z)
          have HI2 := Lib.hid (show Below Wp.heap.size Wp (wr.alloc (Prx z)) from HI.out.alloc HI.out.size _)
          have hne : bp < wr.heap.size := Nat.lt_of_lt_of_le hsz HI.out.size
          unfold Prx at *
          clear hz
          cases hv : inQ (S1.take j) p
          · rw [hv, Bool.false_or] at HT
            cases he : eqr p z
            · rw [he] at HT
              go_wp2_with (first | (refine at_load37 (.tmp 64) rfl rfl (y1.add (j * 5)) z rfl hat ?_) | (refine at_load37g (.tmp 13) _ p rfl ?_ rfl QP.out.at ?_; (with_reducible rfl)) | (refine at_load37g (.tmp 17) _ z rfl ?_ rfl QZ.out.at ?_; (with_reducible rfl)) | (refine at_eql37g (.tmp 68) (.tmp 69) p z rfl ?_ rfl rfl ?_; (with_reducible rfl); rw [he]))
              go_roundw
              case rel => exact ⟨j + 1, by go_num, by omega, by rw [HT.out], HI2⟩
              case measure => simp [intOf]; omega
            · rw [he] at HT
              go_wp2_with (first | (refine at_load37 (.tmp 64) rfl rfl (y1.add (j * 5)) z rfl hat ?_) | (refine at_load37g (.tmp 13) _ p rfl ?_ rfl QP.out.at ?_; (with_reducible rfl)) | (refine at_load37g (.tmp 17) _ z rfl ?_ rfl QZ.out.at ?_; (with_reducible rfl)) | (refine at_eql37g (.tmp 68) (.tmp 69) p z rfl ?_ rfl rfl ?_; (with_reducible rfl); rw [he]))
              go_roundw
              case rel => exact ⟨j + 1, by go_num, by omega, by rw [HT.out], HI2⟩
              case measure => simp [intOf]; omega
          · rw [hv, Bool.true_or] at HT
            go_wp2_with (refine at_load37 (.tmp 64) rfl rfl (y1.add (j * 5)) z rfl hat ?_)
            go_roundw
            case rel => exact ⟨j + 1, by go_num, by omega, by rw [HT.out], HI2⟩
            case measure => simp [intOf]; omega
        · obtain rfl : n1 = j := by omega
          have hfull : S1.take n1 = S1 := List.take_of_length_le (by rw [HN1.out]; exact Nat.le_refl _)
          rw [hfull, HIN.out]
          have QP := Lib.hid (Q1.out.below HI.out)
          have RS2 := Lib.hid (RS1.out.below HI.out)
          have C2 := Lib.hid (C1.out.below HI.out)
          have WB2 := Lib.hid (W1b.out.trans (HI.out.mono W1b.out.size))
          have hsz2 := Nat.lt_of_lt_of_le hsz HI.out.size
          clear hfull Q1 RS1 C1 HI hsz RL1 W1b
          obtain ⟨wi, rfl⟩ : ∃ wi, wi = wr := ⟨_, rfl⟩
          go_wp2_with fail
          go_loopw [15, 75] (fun v i wr => ∃ j : Nat, i = .int .i64 j ∧ j ≤ Ls ∧ v = .bool (wasQ (ss.take j) p) ∧ Hid (Below wi.heap.size wi wr)) (fun _ i _ => Ls - (intOf i).toNat)
          case atStart => exact ⟨0, rfl, by omega, rfl, Lib.hid (Below.refl _ _)⟩
          case round =>
            obtain ⟨m, rfl, hm, rfl, HI⟩ := hrel
            by_cases hmn : m < Ls
            · obtain ⟨z, hz⟩ := at_of_lt (xs := ss) (k := m) (by rw [HLS.out]; exact hmn)
              obtain ⟨ys', rfl⟩ := rw_some RS2.out (by rw [HLS.out]; omega)
              have hat := (RS2.out.below HI.out).at hz
              have HT := Lib.hid (wasQ_take (p := p) hz)
              obtain ⟨hz0, hz1⟩ := V.n HV.out z (List.mem_of_getElem? hz)
              obtain ⟨p0, p1, p2, -, p4⟩ := ((QP.out.below HI.out).below ((Below.refl _ wr).alloc (Nat.le_refl _) (Prx z))).c
              obtain ⟨z0, z1, z2, -, z4⟩ := (qb_box wr z).c
              have HI2 := Lib.hid (show Below wi.heap.size wi (wr.alloc (Prx z)) from HI.out.alloc HI.out.size _)
              have hne : bp < wr.heap.size := Nat.lt_of_lt_of_le hsz2 HI.out.size
              have HWQ := Lib.hid (show wq p z = ((p.a == z.a) && ((p.i == z.i) && ((p.s == z.s) && (p.n == z.n + 1)))) from rfl)
              unfold Prx at *
              clear hz
              cases hv : wasQ (ss.take m) p
              · rw [hv, Bool.false_or] at HT
                cases h1 : (p.a == z.a)
                · rw [HWQ.out, h1] at HT
                  go_upto_region 20 with (refine at_load37 (.tmp 77) rfl rfl (ys'.add (m * 5)) z rfl hat ?_)
                  go_wp2_with fail
                  go_roundw
                  case rel => exact ⟨m + 1, by go_num, by omega, by rw [HT.out]; rfl, HI2⟩
                  case measure => simp [intOf]; omega
                · cases h2 : (p.i == z.i)
                  · rw [HWQ.out, h1, h2] at HT
                    go_upto_region 20 with (refine at_load37 (.tmp 77) rfl rfl (ys'.add (m * 5)) z rfl hat ?_)
                    go_wp2_with fail
                    go_roundw
                    case rel => exact ⟨m + 1, by go_num, by omega, by rw [HT.out]; rfl, HI2⟩
                    case measure => simp [intOf]; omega
                  · cases h3 : (p.s == z.s)
                    · rw [HWQ.out, h1, h2, h3] at HT
                      go_upto_region 20 with (refine at_load37 (.tmp 77) rfl rfl (ys'.add (m * 5)) z rfl hat ?_)
                      go_wp2_with fail
                      go_roundw
                      case rel => exact ⟨m + 1, by go_num, by omega, by rw [HT.out]; rfl, HI2⟩
                      case measure => simp [intOf]; omega
                    · cases h4 : (p.n == z.n + 1)
                      · rw [HWQ.out, h1, h2, h3, h4] at HT
                        go_upto_region 20 with (refine at_load37 (.tmp 77) rfl rfl (ys'.add (m * 5)) z rfl hat ?_)
                        go_wp2_with fail
                        go_roundw
                        case rel => exact ⟨m + 1, by go_num, by omega, by rw [HT.out]; rfl, HI2⟩
                        case measure => simp [intOf]; omega
                      · rw [HWQ.out, h1, h2, h3, h4] at HT
                        go_upto_region 20 with (refine at_load37 (.tmp 77) rfl rfl (ys'.add (m * 5)) z rfl hat ?_)
                        go_wp2_with fail
                        go_roundw
                        case rel => exact ⟨m + 1, by go_num, by omega, by rw [HT.out]; rfl, HI2⟩
                        case measure => simp [intOf]; omega
              · rw [hv, Bool.true_or] at HT
                go_upto_region 20 with (refine at_load37 (.tmp 77) rfl rfl (ys'.add (m * 5)) z rfl hat ?_)
                go_wp2_with fail
                go_roundw
                case rel => exact ⟨m + 1, by go_num, by omega, by rw [HT.out], HI2⟩
                case measure => simp [intOf]; omega
            · obtain rfl : Ls = m := by omega
              have hfull : ss.take Ls = ss := List.take_of_length_le (by rw [HLS.out]; exact Nat.le_refl _)
              rw [hfull, HWS.out]
              obtain ⟨-, -, -, p3, p4⟩ := (QP.out.below HI.out).c
              rw [HPT.out] at p3
              have C3 := C2.out.below HI.out
              have c5 := C3.c5
              have c6 := C3.c6
              have WB3 := Lib.hid (WB2.out.trans (HI.out.mono WB2.out.size))
              have hne2 : (nw + C.f != nw + C.f) = false := by simp
              clear hfull C3
              go_wp2_with fail
              go_roundw
              case rel => exact ⟨k + 1, by go_num, by omega, WB3⟩
              case measure => simp [intOf]; omega
    · obtain rfl : n2 = k := by omega
      have HRR := Lib.hid (right_row A1 S1 c1 wr (RL5.out.below HW.out) (by rw [HN1.out]; exact HC1.out))
      rw [show rgB S1 = true from (rg_iff _).2 HVL.out.r, HN1.out] at HRR
      go_wp2_with fail
      refine HRR.out.mono ?_
      rintro e w9 ⟨rfl, hb⟩
      have B9 := Lib.hid ((B5.out.trans (HW.out.mono B5.out.size)).trans (hb.mono (B5.out.trans (HW.out.mono B5.out.size)).size))
      clear hb
      go_wp2_with fail
      go_ret
      exact ⟨rfl, B9.out⟩
end Go.Proofs.Ytjjbkhelnmdfnaa
