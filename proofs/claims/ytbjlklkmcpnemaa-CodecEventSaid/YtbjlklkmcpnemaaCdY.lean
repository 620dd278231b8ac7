/-
  The contracts of mac.Group, a reader's done, codec.rightEvent and codec.ReadEvent. Conditions: rows lie in memory; a station's first number is a byte.
-/
import Derived.Test.YtbjlklkmcpnemaaCdW
import Derived.Test.YtbjlklkmcpnemaaCdMay
import Derived.BigGuard
set_option linter.unusedSimpArgs false
set_option linter.unusedVariables false
namespace Go.Proofs.Ytbjlklkmcpnemaa
open Go.RowKit

theorem and1 (b : Int) (h0 : 0 ≤ b) (h1 : b < 256) : bits .and .u8 b 1 = b % 2 := by
  rw [u8_and b 1 h0 h1 (by omega) (by omega)]
  have h : ∀ m : Fin 256, (m.val &&& 1) = m.val % 2 := by decide +kernel
  have := h ⟨b.toNat, by omega⟩
  simp only at this
  rw [show (1 : Int).toNat = 1 from rfl, this]
  omega
set_option maxRecDepth 100000 in
theorem group_any (b0 b1 b2 b3 b4 b5 : Int) (w : World) (h0 : 0 ≤ b0) (h1 : b0 < 256) :
    Calls Try.prog 29 #[.agg #[.int .u8 b0, .int .u8 b1, .int .u8 b2, .int .u8 b3, .int .u8 b4, .int .u8 b5]] w fun e w' => e = .returned (.bool (b0 % 2 == 1)) ∧ Below w.heap.size w w' := by
  have H := Lib.hid (and1 b0 h0 h1)
  go_enter Try.func29, Try.ntmps29
  go_wp2
  go_ret
  exact ⟨by rw [← H.out]; rfl, (Below.refl _ _).alloc (Nat.le_refl _) _⟩
/-- Whether an event that was read may be. -/
def rgE (e : Ev) : Bool := if e.k = 1 then Hl.mayB e.T && !(e.m0 % 2 == 1) else if e.k = 5 then decide (e.f < 4) else decide (e.k < 8)
set_option maxRecDepth 100000 in
set_option maxHeartbeats 4000000 in
theorem rdone_any (x : Rs) (b : Nat) (w : World) (H : Rd w b x) :
    Calls Try.prog 24 #[.pointer (some ⟨b, 0, none⟩)] w fun e w' => e = .returned (.bool (!x.sh && decide (x.zs.length = 0))) ∧ w' = w := by
  obtain ⟨A, c, hC, hR, hlc, hc, hA⟩ := H
  obtain ⟨zs, sh⟩ := x
  dsimp only at hC hR hlc ⊢
  have k0 := hC.key 0 _ rfl
  have k1 := hC.key 1 _ rfl
  have hln := hR.1
  obtain ⟨L, hL⟩ : ∃ L, zs.length = L := ⟨_, rfl⟩
  rw [hL] at k0 hlc hln ⊢
  clear hC hR hA hL
  cases sh
  · by_cases h0 : L = 0
    · subst h0
      go_enter Try.func24, Try.ntmps24
      go_wp2_with fail
      go_ret
      exact ⟨rfl, rfl⟩
    · have hd : ((L : Int) == 0) = false := beq_eq_false_iff_ne.2 (by omega)
      have hd2 : decide (L = 0) = false := decide_eq_false h0
      go_enter Try.func24, Try.ntmps24
      go_wp2_with fail
      go_ret
      rw [hd2]
      exact ⟨rfl, rfl⟩
  · go_enter Try.func24, Try.ntmps24
    go_wp2_with fail
    go_ret
    exact ⟨rfl, rfl⟩
set_option maxRecDepth 100000 in
set_option maxHeartbeats 4000000 in
theorem rightE_any (e : Ev) (w : World) (hm0 : 0 ≤ e.m0) (hm1 : e.m0 < 256) (hT : e.T.size ≤ 9223372036854775807) :
    Calls Try.prog 25 #[evv e] w fun z w' => z = .returned (.bool (rgE e)) ∧ Below w.heap.size w w' := by
  have HQ := Lib.hid (show rgE e = _ from by unfold rgE; rfl)
  have HM := Lib.hid fun W => Hl.may_any e.T W hT
  have HG := Lib.hid fun W => group_any e.m0 e.m1 e.m2 e.m3 e.m4 e.m5 W hm0 hm1
  obtain ⟨k, a, T, m0, m1, m2, m3, m4, m5, b, n, f, s0, s1, s2, s3, s4, s5, t⟩ := e
  dsimp only at HQ HM HG hm0 hm1 hT
  simp only [evv, evl]
  have B0 := Lib.hid (show Below w.heap.size w (w.alloc (.cells #[.int .i64 k, .int .u32 a, .string T, .int .u8 m0, .int .u8 m1, .int .u8 m2, .int .u8 m3, .int .u8 m4, .int .u8 m5, .int .u32 b, .int .i64 n, .int .i64 f, .int .u8 s0, .int .u8 s1, .int .u8 s2, .int .u8 s3, .int .u8 s4, .int .u8 s5, .int .i64 t] 35)) from (Below.refl _ _).alloc (Nat.le_refl _) _)
  have KC := cx_box w [.int .i64 k, .int .u32 a, .string T, .int .u8 m0, .int .u8 m1, .int .u8 m2, .int .u8 m3, .int .u8 m4, .int .u8 m5, .int .u32 b, .int .i64 n, .int .i64 f, .int .u8 s0, .int .u8 s1, .int .u8 s2, .int .u8 s3, .int .u8 s4, .int .u8 s5, .int .i64 t] _ 35 rfl
  have k0 := KC.key 0 _ rfl
  have k2 := KC.key 2 _ rfl
  have k3 := KC.key 3 _ rfl
  have k4 := KC.key 4 _ rfl
  have k5 := KC.key 5 _ rfl
  have k6 := KC.key 6 _ rfl
  have k7 := KC.key 7 _ rfl
  have k8 := KC.key 8 _ rfl
  have k11 := KC.key 11 _ rfl
  clear KC
  obtain ⟨mb, hmb⟩ : ∃ v, Hl.mayB T = v := ⟨_, rfl⟩
  rw [hmb] at HM HQ
  clear hmb
  go_enter Try.func25, Try.ntmps25
  go_upto_region 1 with fail
  generalize w.alloc (.cells #[.int .i64 k, .int .u32 a, .string T, .int .u8 m0, .int .u8 m1, .int .u8 m2, .int .u8 m3, .int .u8 m4, .int .u8 m5, .int .u32 b, .int .i64 n, .int .i64 f, .int .u8 s0, .int .u8 s1, .int .u8 s2, .int .u8 s3, .int .u8 s4, .int .u8 s5, .int .i64 t] 35) = W at *
  by_cases e1 : k = 1
  · subst e1
    rw [if_pos rfl] at HQ
    cases mb
    · go_wp2_with fail
      refine (HM.out _).mono ?_
      rintro e w1 ⟨rfl, rfl⟩
      go_wp2_with fail
      go_ret
      rw [HQ.out]
      exact ⟨rfl, B0.out⟩
    · go_wp2_with fail
      refine (HM.out _).mono ?_
      rintro e w1 ⟨rfl, rfl⟩
      go_wp2_with fail
      refine (HG.out _).mono ?_
      rintro e w2 ⟨rfl, hb⟩
      go_wp2_with fail
      go_ret
      rw [HQ.out]
      exact ⟨rfl, B0.out.trans (hb.mono B0.out.size)⟩
  · rw [if_neg e1] at HQ
    by_cases e5 : k = 5
    · subst e5
      rw [if_pos rfl] at HQ
      go_wp2_with fail
      go_ret
      rw [HQ.out]
      exact ⟨rfl, B0.out⟩
    · rw [if_neg e5] at HQ
      have d1 : (k == 1) = false := beq_eq_false_iff_ne.2 e1
      have d5 : (k == 5) = false := beq_eq_false_iff_ne.2 e5
      go_wp2_with fail
      go_ret
      rw [HQ.out]
      exact ⟨rfl, B0.out⟩
end Go.Proofs.Ytbjlklkmcpnemaa
