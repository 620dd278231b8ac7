/-
  SeenForget's walk: who is not wanted is forgotten, and nobody else. Conditions: the deeds lie in memory.
-/
import Derived.Test.YtcnhagcmklgpkaaForget
set_option linter.unusedSimpArgs false
set_option linter.unusedVariables false
namespace Go.Proofs.Ytcnhagcmklgpkaa
open Go.RowKit

theorem filt_at {ys : List Kp} {p : Kp → Bool} {k : Nat} {x : Kp} (hx : ys[k]? = some x) (hp : p x = true) : (ys.filter p)[((ys.take k).filter p).length]? = some x := by
  have e : ys = ys.take k ++ x :: ys.drop (k + 1) := by
    obtain ⟨hk, rfl⟩ := List.getElem?_eq_some_iff.1 hx
    rw [← List.drop_eq_getElem_cons hk, List.take_append_drop]
  conv => lhs; arg 1; rw [e]
  rw [List.filter_append, List.getElem?_append_right (Nat.le_refl _), Nat.sub_self, List.filter_cons, if_pos hp]
  rfl
theorem filt_yes {ys : List Kp} {p : Kp → Bool} {k : Nat} {x : Kp} (hx : ys[k]? = some x) (hp : p x = true) : ((ys.take (k + 1)).filter p).length = ((ys.take k).filter p).length + 1 := by
  rw [List.take_add_one, hx, List.filter_append, List.length_append]
  simp [hp]
theorem filt_no {ys : List Kp} {p : Kp → Bool} {k : Nat} {x : Kp} (hx : ys[k]? = some x) (hp : p x = false) : ((ys.take (k + 1)).filter p).length = ((ys.take k).filter p).length := by
  rw [List.take_add_one, hx, List.filter_append, List.length_append]
  simp [hp]

set_option maxRecDepth 100000 in
set_option maxHeartbeats 8000000 in
theorem seenForget_walk (A : Option Addr) (xs : List Ac) (cap : Nat) (odd : Bool) (w : World) (h : Ra w A xs) (hcap : xs.length ≤ cap) :
    Calls Try.prog 6 #[.slice A xs.length cap, .bool odd] w fun e w' => e = .returned (.bool true) ∧ Below w.heap.size w w' := by
  have hz := h.1
  have hA0 : Below w.heap.size w (w.alloc (.cells #[.bool odd] 4)) := (Below.refl _ w).alloc (Nat.le_refl _) _
  have R := Lib.hid (h.below hA0)
  have B0 := Lib.hid hA0
  have HBC := Lib.hid (show (w.alloc (.cells #[.bool odd] 4)).cell? ⟨w.heap.size, 0, none⟩ = some (.bool odd) ∧ w.heap.size < (w.alloc (.cells #[.bool odd] 4)).heap.size by simp)
  have HAW := Lib.hid (awake_any (w.alloc (.cells #[.bool odd] 4)))
  have HSM := Lib.hid fun W (hW : Ra W A xs) => some_any A xs cap W hW hcap
  have HG := Lib.hid (SM_good xs (min xs.length 120) (by omega))
  clear h hA0
  obtain ⟨p, hp⟩ : ∃ p, SM xs (min xs.length 120) = p := ⟨_, rfl⟩
  rw [hp] at HSM HG
  obtain ⟨ys, N⟩ := p
  have HFG := Lib.hid fun b A1 c1 W (hW : Ks W A1 ys) (hc : ys.length ≤ c1) (hb : W.cell? ⟨b, 0, none⟩ = some (.bool odd)) => forget_any odd b A1 ys c1 W hW hc HG.out.v.bd hb
  have HV := Lib.hid (HG.out.v.filter fun x => wB odd x.a)
  have hy64 : ys.length ≤ 64 := HG.out.le
  have HNW := Lib.hid (fun a (ha : wB odd a = false) => show sg (ys.filter fun x => wB odd x.a) a = [] from sg_no (isAt_not fun x hx e => by
    have := (List.mem_filter.1 hx).2
    rw [e, ha] at this
    cases this))
  have HFA := Lib.hid (fun (k : Nat) (x : Kp) (hx : ys[k]? = some x) (hw : wB odd x.a = true) => filt_at (p := fun x => wB odd x.a) hx hw)
  have HFY := Lib.hid (fun (k : Nat) (x : Kp) (hx : ys[k]? = some x) (hw : wB odd x.a = true) => filt_yes (p := fun x => wB odd x.a) hx hw)
  have HFN := Lib.hid (fun (k : Nat) (x : Kp) (hx : ys[k]? = some x) (hw : wB odd x.a = false) => filt_no (p := fun x => wB odd x.a) hx hw)
  have HTE := Lib.hid (show ((ys.take ys.length).filter fun x => wB odd x.a).length = (ys.filter fun x => wB odd x.a).length by rw [List.take_length])
  have HTZ := Lib.hid (show ((ys.take 0).filter fun x => wB odd x.a).length = 0 by simp)
  obtain ⟨fl, hfl⟩ : ∃ fl : Nat → Nat, (fun k => ((ys.take k).filter fun x => wB odd x.a).length) = fl := ⟨_, rfl⟩
  have hfl' : ∀ k, ((ys.take k).filter fun x => wB odd x.a).length = fl k := fun k => by rw [← hfl]
  simp only [hfl'] at HFA HFY HFN HTE HTZ
  obtain ⟨zs, hzs⟩ : ∃ zs, (ys.filter fun x => wB odd x.a) = zs := ⟨_, rfl⟩
  have hzl : zs.length ≤ ys.length := by rw [← hzs]; exact List.length_filter_le _ _
  rw [hzs] at HFG HV HNW HFA HTE
  have HRZ := Lib.hid fun A1 c1 W (hW : Ks W A1 zs) (hc : zs.length ≤ c1) => right_any A1 zs c1 W hW hc
  rw [HV.out.right] at HRZ
  have HOZ := Lib.hid fun a A1 c1 W (hW : Ks W A1 zs) (hc : zs.length ≤ c1) (ha0 : 0 ≤ a) (ha1 : a < 4294967296) => of_any a A1 zs c1 W hW hc (fun x hx => Nat.le_trans (HV.out.bd.2 x hx) (by omega)) ha0 ha1
  clear hp hfl hfl' hzs HG
  obtain ⟨YL, hYL⟩ : ∃ YL, ys.length = YL := ⟨_, rfl⟩
  have HYL := Lib.hid hYL
  obtain ⟨ZL, hZL⟩ : ∃ ZL, zs.length = ZL := ⟨_, rfl⟩
  have HZL := Lib.hid hZL
  rw [hYL] at HFG HTE hy64 hzl
  rw [hZL] at HTE HRZ HOZ hzl
  clear hYL hZL HV
  go_enter Try.func6, Try.ntmps6
  go_wp2_with fail
  refine HAW.out.mono ?_
  rintro e w1 ⟨rfl, hb⟩
  have RW := Lib.hid (R.out.below hb)
  have B1 := Lib.hid (bthen B0.out hb B0.out.size)
  have BC1 := Lib.hid (show w1.cell? ⟨w.heap.size, 0, none⟩ = some (.bool odd) ∧ w.heap.size < w1.heap.size from ⟨by rw [hb.cell (p := ⟨w.heap.size, 0, none⟩) HBC.out.2]; exact HBC.out.1, Nat.lt_of_lt_of_le HBC.out.2 hb.size⟩)
  clear hb HBC B0 R
  go_wp2_with fail
  refine (HSM.out _ RW.out).mono ?_
  rintro e w2 ⟨v2, rfl, hb, A2, c2, rfl, hc2, -, hK2⟩
  rw [HYL.out] at hc2 ⊢
  dsimp only at hK2
  have B2 := Lib.hid (bthen B1.out hb B1.out.size)
  have K2 := Lib.hid hK2
  have BC2 := Lib.hid (show w2.cell? ⟨w.heap.size, 0, none⟩ = some (.bool odd) ∧ w.heap.size < w2.heap.size from ⟨by rw [hb.cell (p := ⟨w.heap.size, 0, none⟩) BC1.out.2]; exact BC1.out.1, Nat.lt_of_lt_of_le BC1.out.2 hb.size⟩)
  clear hb hK2 RW B1 HSM HAW BC1
  go_wp2_with fail
  refine (HFG.out w.heap.size _ _ _ K2.out hc2 BC2.out.1).mono ?_
  rintro e w3 ⟨v3, rfl, hb, A3, c3, rfl, hc3, -, hK3⟩
  rw [HZL.out] at hc3 ⊢
  have HI := Lib.hid (show Below w.heap.size w w3 ∧ Ks w3 A2 ys ∧ Ks w3 A3 zs ∧ w3.cell? ⟨w.heap.size, 0, none⟩ = some (.bool odd) ∧ w.heap.size < w3.heap.size from ⟨bthen B2.out hb B2.out.size, K2.out.below hb, hK3, by rw [hb.cell (p := ⟨w.heap.size, 0, none⟩) BC2.out.2]; exact BC2.out.1, Nat.lt_of_lt_of_le BC2.out.2 hb.size⟩)
  clear hb hK3 B2 K2 BC2 HFG
  go_wp2_with fail
  go_loopw [8, 23] (fun v i wr => ∃ k : Nat, i = .int .i64 k ∧ k ≤ YL ∧ v = .int .i64 (fl k : Nat) ∧ Hid (Below w.heap.size w wr ∧ Ks wr A2 ys ∧ Ks wr A3 zs ∧ wr.cell? ⟨w.heap.size, 0, none⟩ = some (.bool odd) ∧ w.heap.size < wr.heap.size)) (fun _ i _ => YL - (intOf i).toNat)
  case atStart => exact ⟨0, rfl, by omega, by rw [HTZ.out]; rfl, HI⟩
  case round =>
    obtain ⟨k, rfl, hk, rfl, HH⟩ := hrel
    clear HI
    by_cases hlt : k < YL
    · obtain ⟨x, hx⟩ : ∃ x, ys[k]? = some x := ⟨_, List.getElem?_eq_getElem (by rw [HYL.out]; exact hlt)⟩
      obtain ⟨y, P, c, rfl, hin, hat⟩ := HH.out.2.1.kn hx
      have hA1 : Below wr.heap.size wr (wr.alloc (.cells #[.int .u32 x.a, .slice P x.ss.length c] 53)) := (Below.refl _ wr).alloc (Nat.le_refl _) _
      have HB := Lib.hid (show Below w.heap.size w (wr.alloc (.cells #[.int .u32 x.a, .slice P x.ss.length c] 53)) ∧ Ks (wr.alloc (.cells #[.int .u32 x.a, .slice P x.ss.length c] 53)) (some y) ys ∧ Ks (wr.alloc (.cells #[.int .u32 x.a, .slice P x.ss.length c] 53)) A3 zs ∧ (wr.alloc (.cells #[.int .u32 x.a, .slice P x.ss.length c] 53)).cell? ⟨w.heap.size, 0, none⟩ = some (.bool odd) ∧ w.heap.size < (wr.alloc (.cells #[.int .u32 x.a, .slice P x.ss.length c] 53)).heap.size from
        ⟨bthen HH.out.1 hA1 HH.out.1.size, HH.out.2.1.below hA1, HH.out.2.2.1.below hA1, by rw [hA1.cell (p := ⟨w.heap.size, 0, none⟩) HH.out.2.2.2.2]; exact HH.out.2.2.2.1, Nat.lt_of_lt_of_le HH.out.2.2.2.2 hA1.size⟩)
      have HX := Lib.hid (show oneX wr.heap.size x.a P c x.ss.length x.ss (wr.alloc (.cells #[.int .u32 x.a, .slice P x.ss.length c] 53)) from ⟨by simp, by simp, by simp, hin.lies.below hA1⟩)
      have HLC := Lib.hid hin.le
      have X0 : 0 ≤ x.a := hin.a0
      have X1 : x.a < 4294967296 := hin.a1
      have hne : w.heap.size ≠ wr.heap.size := by have := HH.out.2.2.2.2; omega
      have hbc := HB.out.2.2.2.1
      have HKX := Lib.hid hx
      clear hin hA1 hx
      cases odd
      · by_cases hp : x.a % 2 = 1
        · have HW := Lib.hid (show wB false x.a = false by unfold wB; rw [decide_eq_true hp]; rfl)
          have HF1 := Lib.hid (HFN.out k x HKX.out HW.out)
          have HOS := Lib.hid (HOZ.out x.a A3 c3 _ HB.out.2.2.1 hc3 X0 X1)
          rw [HNW.out x.a HW.out] at HOS
          obtain ⟨xa, xs'⟩ := x
          dsimp only at HW HF1 HOS HB HX HLC X0 X1 hp hbc
          have hq : (xa % 2 == 1) = true := by simpa using hp
          have HPQ := Lib.hid hp
          go_wp2_with (refine at_load53 _ rfl rfl _ _ rfl hat ?_)
          refine HOS.out.mono ?_
          rintro e w5 ⟨v5, rfl, hb5, A5, c5, rfl, -, -, -⟩
          have HB5 := Lib.hid (show Below w.heap.size w w5 ∧ Ks w5 (some y) ys ∧ Ks w5 A3 zs ∧ w5.cell? ⟨w.heap.size, 0, none⟩ = some (.bool false) ∧ w.heap.size < w5.heap.size from ⟨bthen HB.out.1 hb5 HB.out.1.size, HB.out.2.1.below hb5, HB.out.2.2.1.below hb5, by rw [hb5.cell (p := ⟨w.heap.size, 0, none⟩) HB.out.2.2.2.2]; exact HB.out.2.2.2.1, Nat.lt_of_lt_of_le HB.out.2.2.2.2 hb5.size⟩)
          clear hb5
          simp only [List.length_nil]
          go_wp2_with fail
          go_roundw
          case rel => exact ⟨k + 1, by go_num, by omega, by rw [HF1.out], HB5⟩
          case measure => simp [intOf]; omega
        · have HW := Lib.hid (show wB false x.a = true by unfold wB; rw [decide_eq_false hp]; rfl)
          have HZX := Lib.hid (HFA.out k x HKX.out HW.out)
          have HF1 := Lib.hid (HFY.out k x HKX.out HW.out)
          have hfz : fl k < ZL := by rw [← HZL.out]; exact (List.getElem?_eq_some_iff.1 HZX.out).1
          obtain ⟨y3, P3, c3', rfl, hin3, hat3⟩ := HB.out.2.2.1.kn HZX.out
          have d0 : (wr.alloc (.cells #[.int .u32 x.a, .slice P x.ss.length c] 53)).cell? (y3.add (fl k * 2)) = some (.int .u32 x.a) := by
            have := hat3 0 _ rfl
            rwa [Addr.add_add, Nat.add_zero] at this
          have d1 : (wr.alloc (.cells #[.int .u32 x.a, .slice P x.ss.length c] 53)).cell? ⟨(y3.add (fl k * 2)).block, (y3.add (fl k * 2)).off + 1, none⟩ = some (.slice P3 x.ss.length c3') := hat3 1 _ rfl
          have HSA := Lib.hid fun n => same_any P3 P x.ss x.ss c3' c ((wr.alloc (.cells #[.int .u32 x.a, .slice P x.ss.length c] 53)).drewN n) (hin3.lies.drewN n) (HX.out.2.2.2.drewN n) hin3.le HLC.out
          rw [show sameB x.ss x.ss = true from decide_eq_true rfl] at HSA
          have HFL := Lib.hid (rfl : fl k = fl k)
          clear hin3 hat3
          obtain ⟨xa, xs'⟩ := x
          dsimp only at HW HZX HF1 d0 d1 HSA HB HX HLC X0 X1 hp hbc
          have hq : (xa % 2 == 1) = false := by simpa using hp
          have HPQ := Lib.hid hp
          clear hp
          generalize fl k = FK at *
          go_wp2_with (refine at_load53 _ rfl rfl _ _ rfl hat ?_)
          go_upto_region 12 with fail
          generalize wr.alloc (.cells #[.int .u32 xa, .slice P xs'.length c] 53) = W1 at *
          have b0 := HX.out.2.1
          have b1 := HX.out.2.2.1
          generalize wr.heap.size = N1 at *
          obtain ⟨M, hM⟩ : ∃ M, xs'.length = M := ⟨_, rfl⟩
          rw [hM] at d1 b1 HSA ⊢
          have hfd : decide ((ZL : Int) ≤ (FK : Int)) = false := decide_eq_false (by omega)
          have hfd2 : decide (ZL ≤ FK) = false := decide_eq_false (by omega)
          have hnn : (xa != xa) = false := by simp
          clear hM hat
          refine wp_region_quiet_lit (by kernel_rfl) (by kernel_rfl) ?_
          repeat (go_big_quiet_step ((go_at_call 13; exact Calls.quiet_of (HSA.out _))))
          refine wpQuiet_nil ?_
          rintro w7 ⟨dq, rfl⟩
          go_wp2_with fail
          go_roundw
          case rel => exact ⟨k + 1, by go_num, by omega, by rw [HF1.out]; go_num, Lib.hid ⟨bdrewN HB.out.1 dq, HB.out.2.1.drewN dq, HB.out.2.2.1.drewN dq, HB.out.2.2.2.1, HB.out.2.2.2.2⟩⟩
          case measure => simp [intOf]; omega
      · by_cases hp : x.a % 2 = 1
        · have HW := Lib.hid (show wB true x.a = true by unfold wB; rw [decide_eq_true hp]; rfl)
          have HZX := Lib.hid (HFA.out k x HKX.out HW.out)
          have HF1 := Lib.hid (HFY.out k x HKX.out HW.out)
          have hfz : fl k < ZL := by rw [← HZL.out]; exact (List.getElem?_eq_some_iff.1 HZX.out).1
          obtain ⟨y3, P3, c3', rfl, hin3, hat3⟩ := HB.out.2.2.1.kn HZX.out
          have d0 : (wr.alloc (.cells #[.int .u32 x.a, .slice P x.ss.length c] 53)).cell? (y3.add (fl k * 2)) = some (.int .u32 x.a) := by
            have := hat3 0 _ rfl
            rwa [Addr.add_add, Nat.add_zero] at this
          have d1 : (wr.alloc (.cells #[.int .u32 x.a, .slice P x.ss.length c] 53)).cell? ⟨(y3.add (fl k * 2)).block, (y3.add (fl k * 2)).off + 1, none⟩ = some (.slice P3 x.ss.length c3') := hat3 1 _ rfl
          have HSA := Lib.hid fun n => same_any P3 P x.ss x.ss c3' c ((wr.alloc (.cells #[.int .u32 x.a, .slice P x.ss.length c] 53)).drewN n) (hin3.lies.drewN n) (HX.out.2.2.2.drewN n) hin3.le HLC.out
          rw [show sameB x.ss x.ss = true from decide_eq_true rfl] at HSA
          have HFL := Lib.hid (rfl : fl k = fl k)
          clear hin3 hat3
          obtain ⟨xa, xs'⟩ := x
          dsimp only at HW HZX HF1 d0 d1 HSA HB HX HLC X0 X1 hp hbc
          have hq : (xa % 2 == 1) = true := by simpa using hp
          have HPQ := Lib.hid hp
          clear hp
          generalize fl k = FK at *
          go_wp2_with (refine at_load53 _ rfl rfl _ _ rfl hat ?_)
          go_upto_region 12 with fail
          generalize wr.alloc (.cells #[.int .u32 xa, .slice P xs'.length c] 53) = W1 at *
          have b0 := HX.out.2.1
          have b1 := HX.out.2.2.1
          generalize wr.heap.size = N1 at *
          obtain ⟨M, hM⟩ : ∃ M, xs'.length = M := ⟨_, rfl⟩
          rw [hM] at d1 b1 HSA ⊢
          have hfd : decide ((ZL : Int) ≤ (FK : Int)) = false := decide_eq_false (by omega)
          have hfd2 : decide (ZL ≤ FK) = false := decide_eq_false (by omega)
          have hnn : (xa != xa) = false := by simp
          clear hM hat
          refine wp_region_quiet_lit (by kernel_rfl) (by kernel_rfl) ?_
          repeat (go_big_quiet_step ((go_at_call 13; exact Calls.quiet_of (HSA.out _))))
          refine wpQuiet_nil ?_
          rintro w7 ⟨dq, rfl⟩
          go_wp2_with fail
          go_roundw
          case rel => exact ⟨k + 1, by go_num, by omega, by rw [HF1.out]; go_num, Lib.hid ⟨bdrewN HB.out.1 dq, HB.out.2.1.drewN dq, HB.out.2.2.1.drewN dq, HB.out.2.2.2.1, HB.out.2.2.2.2⟩⟩
          case measure => simp [intOf]; omega
        · have HW := Lib.hid (show wB true x.a = false by unfold wB; rw [decide_eq_false hp]; rfl)
          have HF1 := Lib.hid (HFN.out k x HKX.out HW.out)
          have HOS := Lib.hid (HOZ.out x.a A3 c3 _ HB.out.2.2.1 hc3 X0 X1)
          rw [HNW.out x.a HW.out] at HOS
          obtain ⟨xa, xs'⟩ := x
          dsimp only at HW HF1 HOS HB HX HLC X0 X1 hp hbc
          have hq : (xa % 2 == 1) = false := by simpa using hp
          have HPQ := Lib.hid hp
          go_wp2_with (refine at_load53 _ rfl rfl _ _ rfl hat ?_)
          refine HOS.out.mono ?_
          rintro e w5 ⟨v5, rfl, hb5, A5, c5, rfl, -, -, -⟩
          have HB5 := Lib.hid (show Below w.heap.size w w5 ∧ Ks w5 (some y) ys ∧ Ks w5 A3 zs ∧ w5.cell? ⟨w.heap.size, 0, none⟩ = some (.bool true) ∧ w.heap.size < w5.heap.size from ⟨bthen HB.out.1 hb5 HB.out.1.size, HB.out.2.1.below hb5, HB.out.2.2.1.below hb5, by rw [hb5.cell (p := ⟨w.heap.size, 0, none⟩) HB.out.2.2.2.2]; exact HB.out.2.2.2.1, Nat.lt_of_lt_of_le HB.out.2.2.2.2 hb5.size⟩)
          clear hb5
          simp only [List.length_nil]
          go_wp2_with fail
          go_roundw
          case rel => exact ⟨k + 1, by go_num, by omega, by rw [HF1.out], HB5⟩
          case measure => simp [intOf]; omega
    · obtain rfl : k = YL := by omega
      have hfe : fl k = ZL := HTE.out
      have HZ := Lib.hid (HRZ.out A3 c3 wr HH.out.2.2.1 hc3)
      rw [hfe]
      go_wp2_with fail
      refine HZ.out.mono ?_
      rintro e w9 ⟨rfl, hb⟩
      have B9 := Lib.hid (bthen HH.out.1 hb HH.out.1.size)
      clear hb
      go_wp2_with fail
      go_ret
      exact ⟨rfl, B9.out⟩
end Go.Proofs.Ytcnhagcmklgpkaa
