/-
  ProbeOf's walk: a question is known by its address, and its number. Conditions: the address is a number of 32 bits.
-/
import Derived.BigGuard
import Derived.Laws.BitsLemmas
import Derived.Test.YtjjbkhelnmdfnaaSom
set_option linter.unusedSimpArgs false
set_option linter.unusedVariables false
namespace Go.Proofs.Ytjjbkhelnmdfnaa
open Go.RowKit

theorem i64_low (n : Int) : bits .and .i64 n 65535 = n % 65536 := by
  have h127 : (BitVec.ofInt 64 65535).toNat = 2 ^ 16 - 1 := by decide
  have key : (BitVec.ofInt 64 n &&& BitVec.ofInt 64 65535).toNat = (n % ((2 ^ 64 : Nat) : Int)).toNat % 2 ^ 16 := by
    rw [BitVec.toNat_and, BitVec.toNat_ofInt, h127, Nat.and_two_pow_sub_one_eq_mod]
  show IntKind.i64.wrap ((BitVec.ofInt 64 n &&& BitVec.ofInt 64 65535).toNat : Nat) = n % 65536
  rw [key, IntKind.wrap_i64]
  omega

set_option maxRecDepth 100000 in
set_option maxHeartbeats 8000000 in
theorem probeOf_walk (a s n : Int) (w : World) (ha0 : 0 ≤ a) (ha1 : a < 4294967296) :
    Calls Try.prog 4 #[.int .u32 a, .int .i64 s, .int .i64 n] w fun e w' => e = .returned (.bool true) ∧ Below w.heap.size w w' := by
  have hm : a.tmod 65536 = a % 65536 := Int.tmod_eq_emod_of_nonneg ha0
  have hc := cl_eq' n
  have hl := i64_low s
  have HOF := Lib.hid fun W => of_any a s n W
  obtain ⟨x, hx⟩ : ∃ x, ofP a s n = x := ⟨_, rfl⟩
  have HQ := Lib.hid (show rqB x = true by rw [← hx]; exact rq_of a s n)
  rw [hx] at HOF
  unfold ofP at hx
  obtain ⟨i, hi⟩ : ∃ i, a % 65536 = i := ⟨_, rfl⟩
  obtain ⟨q, hq⟩ : ∃ q, s % 65536 = q := ⟨_, rfl⟩
  obtain ⟨t, ht⟩ : ∃ t, cl n = t := ⟨_, rfl⟩
  have hi0 : 0 ≤ i ∧ i < 65536 := by omega
  rw [hi] at hm
  rw [hq] at hl
  rw [ht] at hc
  rw [hi, hq, ht] at hx
  subst hx
  clear hi hq ht
  obtain ⟨hi0, hi1⟩ := hi0
  have HPK := Lib.hid fun W => packet_any ⟨a, i, q, t, 0⟩ W
  unfold prv at HOF HPK
  dsimp only at HOF HPK
  go_enter Try.func4, Try.ntmps4
  go_wp2_with fail
  refine (awake_any w).mono ?_
  rintro e W1 ⟨rfl, hb⟩
  have B1 := Lib.hid hb
  clear hb
  go_wp2_with fail
  refine (HOF.out _).mono ?_
  rintro e W2 ⟨rfl, hb⟩
  have B2' := Lib.hid (B1.out.trans (hb.mono B1.out.size))
  have B2 := Lib.hid (B2'.out.alloc B2'.out.size (Prx ⟨a, i, q, t, 0⟩))
  have Q2 := Lib.hid (qb_box W2 ⟨a, i, q, t, 0⟩)
  clear hb B2'
  unfold Prx at *
  dsimp only at B2 Q2
  go_upto_region 4 with fail
  generalize W2.alloc (.cells #[.int .u32 a, .int .i64 i, .int .i64 q, .int .i64 t, .int .i64 0] 37) = W3 at *
  generalize W2.heap.size = b at *
  go_wp2_with (refine at_load37 (.tmp 7) rfl rfl _ ⟨a, i, q, t, 0⟩ rfl Q2.out.at ?_)
  refine (HPK.out _).mono ?_
  rintro e W4 ⟨rfl, hb⟩
  have B4' := Lib.hid (B2.out.trans (hb.mono B2.out.size))
  have Q4 := Lib.hid ((Q2.out.below hb).below ((Below.refl _ W4).alloc (Nat.le_refl _) (Pkx (pkO ⟨a, i, q, t, 0⟩))))
  have B4 := Lib.hid (B4'.out.alloc B4'.out.size (Pkx (pkO ⟨a, i, q, t, 0⟩)))
  have K4 := Lib.hid (kb_box W4 (pkO ⟨a, i, q, t, 0⟩))
  clear hb B4'
  unfold Pkx pkv pkO at *
  dsimp only at B4 K4 Q4 ⊢
  go_upto_region 5 with fail
  generalize W4.alloc (.cells #[.bool false, .int .u32 0, .int .u32 a, .int .u8 0, .int .u8 0, .int .u8 0, .int .u8 0, .int .u8 0, .int .u8 0, .int .i64 i, .int .i64 q] 44) = W5 at *
  generalize W4.heap.size = b2 at *
  obtain ⟨-, q1, q2, -, -⟩ := Q4.out.c
  have HRR := Lib.hid (right_row (some ⟨W5.heap.size, 0, none⟩) [⟨a, i, q, t, 0⟩] 1 (W5.alloc (Prx ⟨a, i, q, t, 0⟩)) (hs_box W5 ⟨a, i, q, t, 0⟩) (by simp))
  rw [show rgB [⟨a, i, q, t, 0⟩] = true from (rg_iff _).2 (V.one HQ.out ha0 ha1).r] at HRR
  have B5 := Lib.hid (B4.out.alloc B4.out.size (Prx ⟨a, i, q, t, 0⟩))
  simp only [List.length_cons, List.length_nil, Nat.zero_add] at HRR
  have eq1 : eqr ⟨a, i, q, t, 0⟩ ⟨a, i, q, t, 0⟩ = true := by simp [eqr]
  have eq2 : eqk ⟨false, 0, a, 0, 0, 0, 0, 0, 0, i, q⟩ ⟨false, 0, a, 0, 0, 0, 0, 0, 0, i, q⟩ = true := eqk_refl _
  unfold Prx at *
  dsimp only at HRR B5 q1 q2
  go_wp2_with (first | (refine at_load37 (.tmp 7) rfl rfl _ ⟨a, i, q, t, 0⟩ rfl Q4.out.at ?_) | (refine at_load37g (.tmp 7) _ ⟨a, i, q, t, 0⟩ rfl ?_ rfl Q4.out.at ?_; (with_reducible rfl)) | (refine at_load44g (.tmp 8) _ ⟨false, 0, a, 0, 0, 0, 0, 0, 0, i, q⟩ rfl ?_ rfl K4.out.at ?_; (with_reducible rfl)) | (refine at_eql37g (.tmp 17) (.tmp 27) ⟨a, i, q, t, 0⟩ ⟨a, i, q, t, 0⟩ rfl ?_ rfl rfl ?_; (with_reducible rfl); rw [eq1]) | (refine at_eql44g (.tmp 30) (.tmp 36) ⟨false, 0, a, 0, 0, 0, 0, 0, 0, i, q⟩ ⟨false, 0, a, 0, 0, 0, 0, 0, 0, i, q⟩ rfl ?_ rfl rfl ?_; (with_reducible rfl); rw [eq2]))
  refine HRR.out.mono ?_
  rintro e W6 ⟨rfl, hb⟩
  have B6 := Lib.hid (B5.out.trans (hb.mono B5.out.size))
  clear hb
  go_wp2_with fail
  go_ret
  exact ⟨rfl, B6.out⟩
end Go.Proofs.Ytjjbkhelnmdfnaa
