/-
  The contract of the statements' own Some: a list behind some deeds. Conditions: the deeds lie in memory, and bytes are bytes.
-/
import Derived.BigGuard
import Derived.Test.YtmaaniokfpkbjaaDoo
import Derived.Test.YtmaaniokfpkbjaaAwk
set_option linter.unusedSimpArgs false
set_option linter.unusedVariables false
namespace Go.Proofs.Ytmaaniokfpkbjaa
open Go.RowKit

/-- What Some hands back. -/
def SomePost (w : World) (s : List Ca × Int) (e : Ending) (w' : World) : Prop :=
  ∃ A c, e = .returned (.tuple #[.slice A s.1.length c, .int .i64 s.2]) ∧ s.1.length ≤ c ∧ Rw eA w' A s.1 ∧ Below w.heap.size w w'

set_option maxRecDepth 100000 in
set_option maxHeartbeats 8000000 in
theorem some_any (cf : Cf) (A : Option Addr) (ys : List Ac) (cap : Nat) (w : World) (h : Rw eC w A ys) (hok : ∀ y ∈ ys, y.Ok) (hc : ys.length ≤ cap) :
    Calls Try.prog 17 #[cfv cf, .slice A ys.length cap] w (SomePost w (smO cf.i cf.h (ys.take 80))) := by
  have hln := h.1
  have HB0 := Lib.hid (show Below w.heap.size w (w.alloc (Cfx cf)) from (Below.refl _ w).alloc (Nat.le_refl _) _)
  have R0 := Lib.hid (h.below HB0.out)
  have C0 := Lib.hid (cm_box w cf)
  have hs0 : w.heap.size < (w.alloc (Cfx cf)).heap.size := by simp
  obtain ⟨zs, hzs⟩ : ∃ zs, ys.take 80 = zs := ⟨_, rfl⟩
  have RZ := Lib.hid (show Rw eC (w.alloc (Cfx cf)) A zs from hzs ▸ R0.out.take 80)
  have HOK := Lib.hid (show ∀ y ∈ zs, y.Ok from fun y hy => hok y (List.mem_of_mem_take (hzs ▸ hy)))
  have hzn : zs.length = min 80 ys.length := by rw [← hzs, List.length_take]
  have HSM := Lib.hid fun k => smO_ok cf.i cf.h (zs.take k) (by rw [List.length_take]; omega)
  have HSN := Lib.hid fun l a => smO_snoc cf.i cf.h l a
  rw [hzs]
  clear h hok hzs R0
  obtain ⟨L, hL⟩ : ∃ L, ys.length = L := ⟨_, rfl⟩
  rw [hL] at hln hc hzn ⊢
  clear hL
  obtain ⟨N, hN⟩ : ∃ N, zs.length = N := ⟨_, rfl⟩
  have HN := Lib.hid hN
  rw [hN] at hzn
  clear hN
  have hmin : min (L : Int) 80 = (N : Int) := by omega
  have hNc : N ≤ cap := by omega
  have hNc' : (N : Int) ≤ cap := by omega
  have hN80 : N ≤ 80 := by omega
  have HSL := run_sl24 A L cap N hNc
  unfold Cfx cfv at *
  clear hzn
  go_enter Try.func17, Try.ntmps17
  go_wp2_with fail
  generalize w.alloc (.cells #[.int .i64 cf.a, .int .i64 cf.b, .int .i64 cf.c, .int .i64 cf.d, .int .i64 cf.e, .int .i64 cf.f, .int .i64 cf.g, .int .i64 cf.h, .int .i64 cf.i] 27) = W0 at *
  go_loopw [6, 7, 18] (fun v t i wr => ∃ (k : Nat) (As : Option Addr) (cs : Nat), i = .int .i64 k ∧ k ≤ N ∧ v = .slice As (smO cf.i cf.h (zs.take k)).1.length cs ∧ t = .int .i64 (smO cf.i cf.h (zs.take k)).2 ∧ Hid ((smO cf.i cf.h (zs.take k)).1.length ≤ cs ∧ Rw eA wr As (smO cf.i cf.h (zs.take k)).1 ∧ Below W0.heap.size W0 wr)) (fun _ _ i _ => N - (intOf i).toNat)
  case atStart => exact ⟨0, none, 0, rfl, by omega, rfl, rfl, Lib.hid ⟨by simp [smO], Rw.nil _ _, Below.refl _ _⟩⟩
  case round =>
    obtain ⟨k, As, cs, rfl, hk, rfl, rfl, HR⟩ := hrel
    obtain ⟨v1, v3⟩ := HSM.out k
    have v4 : (smO cf.i cf.h (zs.take k)).2 ≤ 720 := by rw [List.length_take] at v3; omega
    by_cases hkN : k < N
    · obtain ⟨a, ha⟩ : ∃ a, zs[k]? = some a := ⟨_, List.getElem?_eq_getElem (by rw [HN.out]; exact hkN)⟩
      have hak := HOK.out a (List.mem_of_getElem? ha)
      obtain ⟨y, rfl⟩ := rw_some RZ.out (by rw [HN.out]; omega)
      have hat := (RZ.out.below HR.out.2.2).at ha
      have HT := Lib.hid (show smO cf.i cf.h (zs.take (k + 1)) = sm1 cf.i cf.h (smO cf.i cf.h (zs.take k)) a by rw [List.take_add_one, ha]; exact HSN.out _ _)
      obtain ⟨s, hs⟩ : ∃ s, smO cf.i cf.h (zs.take k) = s := ⟨_, rfl⟩
      rw [hs] at HR HT v1 v4 ⊢
      clear hs v3 ha
      obtain ⟨ss, nw⟩ := s
      have v2 := v1.n0
      have hss := v1.v.r.few
      have HV2 := Lib.hid (show (ls1 cf.i (ss, nw) a).length ≤ 16 from (ls1_ok (q := cf.i) (a := a) v1 (by show nw ≤ 100000; have : nw ≤ 720 := v4; omega)).v.r.few)
      clear v1
      dsimp only at *
      have AM := Lib.hid (am_box wr a)
      have B1 := Lib.hid (show Below W0.heap.size W0 (wr.alloc (Acx a)) from HR.out.2.2.alloc HR.out.2.2.size _)
      have R1 := Lib.hid (HR.out.2.1.below ((Below.refl _ wr).alloc (Nat.le_refl _) (Acx a)))
      have C1 := Lib.hid (C0.out.keep B1.out hs0 B1.out.size)
      have HCS := Lib.hid HR.out.1
      have hsz : wr.heap.size < (wr.alloc (Acx a)).heap.size := by simp
      obtain ⟨o0, o1⟩ := hak.o
      obtain ⟨n0, n1⟩ := hak.n
      have HDO := Lib.hid fun W hR => do_any cf a nw As ss cs W hR HCS.out (by omega) hak
      obtain ⟨D, hD⟩ : ∃ D, doO cf.i nw a ss = D := ⟨_, rfl⟩
      have HD := Lib.hid (show doO cf.i (ss, nw).2 a (ss, nw).1 = D from hD)
      rw [hD] at HDO
      clear hD
      obtain ⟨ys, q⟩ := D
      dsimp only at HDO
      unfold Acx acv at *
      go_upto_region 6 with (refine at_load31 (.tmp 20) rfl rfl (y.add (k * 3)) a rfl hat ?_)
      generalize wr.alloc (.cells #[.int .u8 a.o, .int .u8 a.p, .int .u8 a.n] 31) = W1 at *
      clear hat
      go_wp2_with (first | (refine at_load27 (.tmp 2) rfl rfl _ cf rfl C1.out.at ?_) | (refine at_load31 (.tmp 9) rfl rfl _ a rfl AM.out ?_))
      refine (HDO.out _ R1.out).mono ?_
      rintro e w1 ⟨A2, c2, rfl, hc2, hR2, hb⟩
      have B2 := Lib.hid (B1.out.trans (hb.mono B1.out.size))
      have R2 := Lib.hid hR2
      have R3 := Lib.hid (R1.out.below hb)
      have C2 := Lib.hid (C1.out.below hb)
      have AM2 := Lib.hid (AM.out.below hb)
      have HC2 := Lib.hid hc2
      have hsz2 : wr.heap.size < w1.heap.size := Nat.lt_of_lt_of_le hsz hb.size
      clear hb hR2 hc2 AM C1 R1 B1
      obtain ⟨m0, m1, m2⟩ := AM2.out.c
      by_cases h5 : 5 < a.o % 8
      · by_cases hp : q = 0
        · have hpe : (q == 0) = true := by simpa using hp
          subst hp
          have hp : True := trivial
          have HLS := Lib.hid (show ls1 cf.i (ss, nw) a = ys by unfold ls1; rw [if_pos (by rw [HD.out]), HD.out])
          have RS := R2
          have HCS2 := HC2
          have HT2 := Lib.hid (show smO cf.i cf.h (zs.take (k + 1)) = (tkO cf.h (nw + a.n % 10) ys, nw + a.n % 10) by rw [HT.out]; unfold sm1; rw [if_pos h5, HLS.out])
          have hl9 : ys.length ≤ 900 := by have := HV2.out; rw [HLS.out] at this; omega
          have HTK := Lib.hid fun W hR => tick_any cf (nw + a.n % 10) A2 ys c2 W hR HCS2.out hl9
          have HTL := Lib.hid (show (tkO cf.h (nw + a.n % 10) ys).length = ys.length by unfold tkO; exact List.length_map _)
          clear hp
          go_wp2_with (refine at_load27 (.tmp 2) rfl rfl _ cf rfl C2.out.at ?_)
          refine (HTK.out _ RS.out).mono ?_
          rintro e w2 ⟨v, rfl, ho, hb⟩
          obtain ⟨A3, c3, rfl, hc3, -, -, hR3, -⟩ := own_rw (E := eA) ho (by rw [HTL.out]; omega)
          have B3 := Lib.hid (B2.out.trans (hb.mono B2.out.size))
          have R4 := Lib.hid hR3
          have HC3 := Lib.hid hc3
          clear hb hR3 hc3 ho
          go_wp2_with fail
          go_roundw
          case rel => exact ⟨k + 1, A3, c3, by go_num, by omega, by rw [HT2.out], by rw [HT2.out], Lib.hid (by rw [HT2.out]; exact ⟨HC3.out, R4.out, B3.out⟩)⟩
          case measure => simp [intOf]; omega
        · have hpe : (q == 0) = false := by simpa using hp
          have HLS := Lib.hid (show ls1 cf.i (ss, nw) a = ss by unfold ls1; rw [if_neg (by rw [HD.out]; exact hp)])
          have RS := R3
          have HCS2 := HCS
          have HT2 := Lib.hid (show smO cf.i cf.h (zs.take (k + 1)) = (tkO cf.h (nw + a.n % 10) ss, nw + a.n % 10) by rw [HT.out]; unfold sm1; rw [if_pos h5, HLS.out])
          have hl9 : ss.length ≤ 900 := by have := HV2.out; rw [HLS.out] at this; omega
          have HTK := Lib.hid fun W hR => tick_any cf (nw + a.n % 10) As ss cs W hR HCS2.out hl9
          have HTL := Lib.hid (show (tkO cf.h (nw + a.n % 10) ss).length = ss.length by unfold tkO; exact List.length_map _)
          clear hp
          go_wp2_with (refine at_load27 (.tmp 2) rfl rfl _ cf rfl C2.out.at ?_)
          refine (HTK.out _ RS.out).mono ?_
          rintro e w2 ⟨v, rfl, ho, hb⟩
          obtain ⟨A3, c3, rfl, hc3, -, -, hR3, -⟩ := own_rw (E := eA) ho (by rw [HTL.out]; omega)
          have B3 := Lib.hid (B2.out.trans (hb.mono B2.out.size))
          have R4 := Lib.hid hR3
          have HC3 := Lib.hid hc3
          clear hb hR3 hc3 ho
          go_wp2_with fail
          go_roundw
          case rel => exact ⟨k + 1, A3, c3, by go_num, by omega, by rw [HT2.out], by rw [HT2.out], Lib.hid (by rw [HT2.out]; exact ⟨HC3.out, R4.out, B3.out⟩)⟩
          case measure => simp [intOf]; omega
      · have h5' : decide (5 < a.o % 8) = false := decide_eq_false h5
        by_cases hp : q = 0
        · have hpe : (q == 0) = true := by simpa using hp
          subst hp
          have hp : True := trivial
          have HLS := Lib.hid (show ls1 cf.i (ss, nw) a = ys by unfold ls1; rw [if_pos (by rw [HD.out]), HD.out])
          have RS := R2
          have HCS2 := HC2
          have HT2 := Lib.hid (show smO cf.i cf.h (zs.take (k + 1)) = (ys, nw) by rw [HT.out]; unfold sm1; rw [if_neg h5, HLS.out])
          clear hp
          go_wp2_with fail
          go_roundw
          case rel => exact ⟨k + 1, A2, c2, by go_num, by omega, by rw [HT2.out], by rw [HT2.out], Lib.hid (by rw [HT2.out]; exact ⟨HCS2.out, RS.out, B2.out⟩)⟩
          case measure => simp [intOf]; omega
        · have hpe : (q == 0) = false := by simpa using hp
          have HLS := Lib.hid (show ls1 cf.i (ss, nw) a = ss by unfold ls1; rw [if_neg (by rw [HD.out]; exact hp)])
          have RS := R3
          have HCS2 := HCS
          have HT2 := Lib.hid (show smO cf.i cf.h (zs.take (k + 1)) = (ss, nw) by rw [HT.out]; unfold sm1; rw [if_neg h5, HLS.out])
          clear hp
          go_wp2_with fail
          go_roundw
          case rel => exact ⟨k + 1, As, cs, by go_num, by omega, by rw [HT2.out], by rw [HT2.out], Lib.hid (by rw [HT2.out]; exact ⟨HCS2.out, RS.out, B2.out⟩)⟩
          case measure => simp [intOf]; omega
    · obtain rfl : N = k := by omega
      have hz : zs.take N = zs := List.take_of_length_le (by rw [HN.out]; exact Nat.le_refl _)
      rw [hz] at HR ⊢
      have BB := Lib.hid (HB0.out.trans (HR.out.2.2.mono HB0.out.size))
      go_wp2_with fail
      go_ret2
      exact ⟨As, cs, rfl, HR.out.1, HR.out.2.1, BB.out⟩
end Go.Proofs.Ytmaaniokfpkbjaa
