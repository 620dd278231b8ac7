/-
  SweepOnce's walk: a tick asks no address twice, and none that is not swept. Conditions: what comes in lies in memory, and numbers have their bits.
-/
import Derived.BigGuard
import Derived.Test.YtenolbgadlehpaaHcm
import Derived.Test.YtenolbgadlehpaaPlan
import Derived.Test.YtenolbgadlehpaaOnc
import Derived.Test.YtenolbgadlehpaaMp
import Derived.Test.YtenolbgadlehpaaPlanWalk
set_option linter.unusedSimpArgs false
set_option linter.unusedVariables false
namespace Go.Proofs.Ytenolbgadlehpaa
open Go.RowKit

/-- The map of what was seen, and the rows beside it. -/
structure Ox (w : World) (b : Nat) (D : DataW Value) (zs : List Int) (As : Option Addr) (ss : List Sw) (Aq : Option Addr) (qs : List Int) (k : Nat) (wr : World) : Prop where
  mp : Mp zs D
  own : wr.ownsMap Try.prog 34 mR b k D
  base : w.heap.size ≤ b
  bel : Below w.heap.size w wr
  rs : Rw eW wr As ss
  rq : Rw eA wr Aq qs
theorem Ox.below {w wr w' : World} {b k : Nat} {D : DataW Value} {zs : List Int} {As : Option Addr} {ss : List Sw} {Aq : Option Addr} {qs : List Int} (h : Ox w b D zs As ss Aq qs k wr) (hb : Below wr.heap.size wr w') : Ox w b D zs As ss Aq qs k w' :=
  ⟨h.mp, own_below h.own hb, h.base, h.bel.trans (hb.mono h.bel.size), h.rs.below hb, h.rq.below hb⟩
theorem Ox.put {w wr w' : World} {b k : Nat} {D : DataW Value} {zs : List Int} {As : Option Addr} {ss : List Sw} {Aq : Option Addr} {qs : List Int} (h : Ox w b D zs As ss Aq qs k wr) (z : Int) (ho : w'.ownsMap Try.prog 34 mR b (k + 1) (D.put (.int .u32 z) (.held (.bool true)))) (ht : wr.mapTurned w' b) : Ox w b (D.put (.int .u32 z) (.held (.bool true))) (zs ++ [z]) As ss Aq qs (k + 1) w' :=
  ⟨h.mp.put z, ho, h.base, below_turned h.bel ht h.base h.bel.size, h.rs.turned ht, h.rq.turned ht⟩

set_option maxRecDepth 100000 in
set_option maxHeartbeats 16000000 in
theorem sweepOnce_walk (x : Hc) (B : Option Addr) (ys : List Ac) (cy : Nat) (room : Int) (w : World) (hx : x.Ok) (hB : Rw eC w B ys) (hcy : ys.length ≤ cy) (hok : ∀ y ∈ ys, y.Ok) (hr0 : 0 ≤ room) (hr1 : room < 256) :
    Calls Try.prog 8 #[hv x, .slice B ys.length cy, .int .u8 room] w fun e w' => e = .returned (.bool true) ∧ Below w.heap.size w w' := by
  have B0 := Lib.hid (show Below w.heap.size w (w.alloc (Hcx x)) from (Below.refl _ w).alloc (Nat.le_refl _) _)
  have M0 := Lib.hid (show Hm (w.alloc (Hcx x)) w.heap.size x from hc_box w x)
  have RB0 := Lib.hid (hB.below B0.out)
  have HCH := Lib.hid fun W => choice_any x W hx
  obtain ⟨C, hC⟩ : ∃ C, ch x = C := ⟨_, rfl⟩
  have HSO := Lib.hid fun W (hR : Rw eC W B ys) => some_any C B ys cy W hR hok hcy
  obtain ⟨v1, v2, v3⟩ := smO_ok C.d (ys.take 60) (fun y hy => hok y (List.mem_of_mem_take hy))
  have v4 : (smO C.d (ys.take 60)).2 ≤ 60 := by rw [List.length_take] at v3; omega
  rw [hC] at HCH
  clear hB hok hC v3
  generalize ys.length = Ly at *
  generalize smO C.d (ys.take 60) = s at *
  obtain ⟨ss, nw⟩ := s
  dsimp only at v1 v2 v4
  have HV := Lib.hid v1
  have hss := v1.r.few
  have HPL := Lib.hid fun As cs W hR hc => plan_any C (nw + 1) room As ss cs W hR hc hss HV.out.sv (by omega) (by omega)
  have hfw := plan_few ss C.d room (ord ss (nw + 1))
  rw [show planL ss C.d room (ord ss (nw + 1)) = planO ss C.d (nw + 1) room from rfl] at hfw
  obtain ⟨o1, o2⟩ := once_ok HV.out C.d (nw + 1) room
  generalize planO ss C.d (nw + 1) room = S at *
  obtain ⟨l1, l2⟩ := S
  dsimp only at hfw o1 o2
  have HND := Lib.hid o1
  have HIN := Lib.hid o2
  clear v1 o1 o2
  unfold hv Hcx cfv at *
  have hmm := @run_makeMap Try.prog
  go_enter Try.func8, Try.ntmps8
  go_wp2_with fail
  generalize w.alloc (.cells #[.int .u8 x.a, .int .u8 x.b, .int .u8 x.c, .int .u8 x.d, .int .u8 x.e, .int .u8 x.f, .int .u8 x.g, .int .u8 x.h, .int .u8 x.i] 23) = W0 at *
  refine (awake_any W0).mono ?_
  rintro e W1 ⟨rfl, hb⟩
  have B1 := Lib.hid (B0.out.trans (hb.mono B0.out.size))
  have M1 := Lib.hid (M0.out.below hb)
  have RB1 := Lib.hid (RB0.out.below hb)
  clear hb M0 RB0
  go_wp2_with (refine at_load23 (.tmp 3) rfl rfl _ x rfl M1.out ?_)
  refine (HCH.out W1).mono ?_
  rintro e W2 ⟨rfl, hb⟩
  have B2a := Lib.hid (B1.out.trans (hb.mono B1.out.size))
  have RB2a := Lib.hid (RB1.out.below hb)
  have C2 := Lib.hid (cm_box W2 C)
  have B2 := Lib.hid (B2a.out.alloc B2a.out.size (Cfx C))
  have RB2 := Lib.hid (RB2a.out.below ((Below.refl _ W2).alloc (Nat.le_refl _) (Cfx C)))
  clear hb RB1 M1 B2a RB2a
  go_upto_region 4 with fail
  change Code.wp _ _ _ _ (W2.alloc (Cfx C))
  generalize W2.alloc (Cfx C) = W3 at *
  obtain ⟨bc, hbc⟩ : ∃ bc, W2.heap.size = bc := ⟨_, rfl⟩
  rw [hbc] at C2 ⊢
  clear hbc
  go_wp2_with (refine at_load27 (.tmp 7) rfl rfl _ C rfl C2.out.at ?_)
  refine (HSO.out W3 RB2.out).mono ?_
  rintro e W4 ⟨As, cs, rfl, hcs, hRs, hb⟩
  dsimp only at hcs hRs
  have B4 := Lib.hid (B2.out.trans (hb.mono B2.out.size))
  have C4 := Lib.hid (C2.out.below hb)
  have RS4 := Lib.hid hRs
  have HCS := Lib.hid hcs
  clear hb RB2 hRs hcs
  dsimp only
  obtain ⟨Ls, hLs⟩ : ∃ n, ss.length = n := ⟨_, rfl⟩
  have HLs := Lib.hid hLs
  rw [hLs] at hss HPL HCS ⊢
  clear hLs
  have O4 := Lib.hid (World.ownsMap_made W4 Try.prog 34 mR)
  have B5 := Lib.hid (B4.out.alloc B4.out.size (.map #[] 0))
  have C5 := Lib.hid (C4.out.below ((Below.refl _ W4).alloc (Nat.le_refl _) (.map #[] 0)))
  have RS5 := Lib.hid (RS4.out.below ((Below.refl _ W4).alloc (Nat.le_refl _) (.map #[] 0)))
  have HB4 := B4.out.size
  clear RS4 C4 B4
  go_upto_region 6 with fail
  change Code.wp _ _ _ _ (W4.alloc (.map #[] 0))
  generalize W4.alloc (.map #[] 0) = W5 at *
  generalize W4.heap.size = b at *
  clear hmm
  go_wp2_with (refine at_load27 (.tmp 7) rfl rfl _ C rfl C5.out.at ?_)
  refine (HPL.out As cs W5 RS5.out HCS.out).mono ?_
  rintro e W6 ⟨A1, c1, A2, c2, rfl, hc1, hR1, hR2, hb⟩
  dsimp only at hc1 hR1 hR2
  have O6 := Lib.hid (show Ox w b (.map []) (l2.take 0) As ss A2 l2 0 W6 from ⟨Mp.nil, own_below O4.out hb, HB4, B5.out.trans (hb.mono B5.out.size), RS5.out.below hb, hR2⟩)
  clear hb O4 B5 C5 RS5 hR1 hR2 hc1 HPL HCS HB4
  dsimp only
  obtain ⟨n2, hn2⟩ : ∃ n, l2.length = n := ⟨_, rfl⟩
  have HN2 := Lib.hid hn2
  rw [hn2] at hfw ⊢
  clear hn2
  have hn2b : n2 ≤ 256 := by omega
  clear hfw
  go_wp2_with fail
  go_loopw [41] (fun i wr => ∃ (k : Nat) (D : DataW Value), i = .int .i64 k ∧ k ≤ n2 ∧ Hid (Ox w b D (l2.take k) As ss A2 l2 k wr)) (fun i _ => n2 - (intOf i).toNat)
  case atStart => exact ⟨0, _, rfl, by omega, O6⟩
  case round =>
    obtain ⟨k, D, rfl, hk, HO⟩ := hrel
    by_cases hkn : k < n2
    · obtain ⟨z, hz⟩ : ∃ z, l2[k]? = some z := ⟨_, List.getElem?_eq_getElem (by rw [HN2.out]; exact hkn)⟩
      have hrq := HO.out.rq
      obtain ⟨yq, rfl⟩ := rw_some hrq (by rw [HN2.out]; omega)
      have kq : wr.cell? (yq.add k) = some (.int .u32 z) := ea_at hrq hz
      obtain ⟨hz0, hz1, hzd⟩ := HIN.out z (List.mem_of_getElem? hz)
      have HFR := Lib.hid (fresh_at HND.out hz)
      have HTK := Lib.hid (show l2.take (k + 1) = l2.take k ++ [z] by rw [List.take_add_one, hz]; rfl)
      have HZD := Lib.hid hzd
      clear hz hzd hrq
      obtain ⟨wo, rfl⟩ : ∃ wo, wo = wr := ⟨_, rfl⟩
      go_wp2_with fail
      clear kq
      go_loopw [15, 47] (fun v i wr => ∃ j : Nat, i = .int .i64 j ∧ j ≤ Ls ∧ v = .bool (anyD (ss.take j) z (nw + 1)) ∧ Hid (Below wo.heap.size wo wr)) (fun _ i _ => Ls - (intOf i).toNat)
      case atStart => exact ⟨0, rfl, by omega, rfl, Lib.hid (Below.refl _ _)⟩
      case round =>
        obtain ⟨j, rfl, hj, rfl, HW⟩ := hrel
        by_cases hjL : j < Ls
        · obtain ⟨y, hy⟩ := at_of_lt (xs := ss) (k := j) (by rw [HLs.out]; exact hjL)
          have hrs := HO.out.rs
          obtain ⟨g, rfl⟩ := rw_some hrs (by rw [HLs.out]; omega)
          have hat := (hrs.below HW.out).at hy
          obtain ⟨u0, u1⟩ := HV.out.u.get hy
          have HT := Lib.hid (anyD_take (z := z) (t := nw + 1) hy)
          have B1' := Lib.hid (show Below wo.heap.size wo (wr.alloc (Swx y)) from HW.out.alloc HW.out.size _)
          have Z0 := Lib.hid (wb_box wr y)
          clear hy hrs
          cases hov : anyD (ss.take j) z (nw + 1)
          · cases hh : hasB y.a y.b z
            · have HH := Lib.hid fun W => has_eq y.a y.b z false W u0 u1 hz0 hz1 hh
              rw [hov, hh, Bool.false_or, Bool.false_and] at HT
              clear hov hh
              unfold Swx at *
              go_wp2_with (refine at_load39 (.tmp 49) rfl rfl (g.add (j * 4)) y rfl hat ?_)
              refine (HH.out _).mono ?_
              rintro e w1 ⟨rfl, hb⟩
              have B2' := Lib.hid (B1'.out.trans (hb.mono B1'.out.size))
              clear hb
              go_wp2_with fail
              go_roundw
              case rel => exact ⟨j + 1, by go_num, by omega, by rw [HT.out], B2'⟩
              case measure => simp [intOf]; omega
            · have HH := Lib.hid fun W => has_eq y.a y.b z true W u0 u1 hz0 hz1 hh
              rw [hov, hh, Bool.false_or, Bool.true_and] at HT
              clear hov hh
              unfold Swx at *
              go_wp2_with (refine at_load39 (.tmp 49) rfl rfl (g.add (j * 4)) y rfl hat ?_)
              refine (HH.out _).mono ?_
              rintro e w1 ⟨rfl, hb⟩
              have B2' := Lib.hid (B1'.out.trans (hb.mono B1'.out.size))
              have q2 := (Z0.out.below (by simpa using hb)).c.2.2.1
              clear hb
              go_wp2_with fail
              go_roundw
              case rel => exact ⟨j + 1, by go_num, by omega, by rw [HT.out], B2'⟩
              case measure => simp [intOf]; omega
          · rw [hov, Bool.true_or] at HT
            clear hov
            unfold Swx at *
            go_upto_region 14 with (refine at_load39 (.tmp 49) rfl rfl (g.add (j * 4)) y rfl hat ?_)
            go_wp2_with fail
            go_roundw
            case rel => exact ⟨j + 1, by go_num, by omega, by rw [HT.out], B1'⟩
            case measure => simp [intOf]; omega
        · obtain rfl : Ls = j := by omega
          have hfull : ss.take Ls = ss := List.take_of_length_le (by rw [HLs.out]; exact Nat.le_refl _)
          rw [hfull, HZD.out]
          have O7 := Lib.hid (HO.out.below HW.out)
          have how := O7.out.own
          have hmp := O7.out.mp
          clear HW HO hfull
          go_wp2_with (first | (at_lookup; refine at_look62 (.tmp 66) (.tmp 67) rfl rfl b k D _ how hmp z hz0 hz1 false HFR.out rfl rfl ?_) | (at_mapUpdate; refine at_upd62 (.tmp 73) (.tmp 74) _ rfl rfl b k (by omega) D how z hz0 hz1 rfl rfl rfl ?_))
          intro w9 ho9 ht9
          have O9 := Lib.hid (O7.out.put z ho9 ht9)
          rw [← HTK.out] at O9
          clear ho9 ht9 how hmp O7
          go_wp2_with fail
          go_roundw
          case rel => exact ⟨k + 1, _, by go_num, by omega, O9⟩
          case measure => simp [intOf]; omega
    · obtain rfl : n2 = k := by omega
      go_wp2_with fail
      go_ret
      exact ⟨rfl, HO.out.bel⟩
end Go.Proofs.Ytenolbgadlehpaa
