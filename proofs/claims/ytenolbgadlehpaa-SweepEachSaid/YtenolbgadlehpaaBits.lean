/-
  Contracts of the arithmetic half of package addr (mask, rightBits, Right, Make, Has, Within, Overlap, Size, At, Halves) and of the statements' own Block: what each returns, for every argument, and that nothing that was in memory has changed. Conditions: addresses are numbers of 32 bits.
-/
import Derived.Test.YtenolbgadlehpaaProg
import Derived.Test.YtenolbgadlehpaaMath
import Derived.WalkKit
import Derived.WalkLawsBesides
import Derived.BigQuiet
import Derived.Deep.QuietTactic
import Derived.Lib.QuietBelow
import Derived.Lib.Hide
namespace Go.Proofs.Ytenolbgadlehpaa
open Go.RowKit

theorem ret_bool {a b : Bool} (h : a = b) : Ending.returned (.bool a) = .returned (.bool b) := by rw [h]
theorem ret_int {k : IntKind} {a b : Int} (h : a = b) : Ending.returned (.int k a) = .returned (.int k b) := by rw [h]
theorem bdrewN {B : Nat} {a w : World} (h : Below B a w) (n : Nat) : Below B a (w.drewN n) := h.trans ⟨rfl, rfl, rfl, Nat.le_refl _, fun _ _ => rfl⟩
theorem bcell {W w1 : World} (hb : Below W.heap.size W w1) : (∀ b o, b < W.heap.size → w1.cell? ⟨b, o, none⟩ = W.cell? ⟨b, o, none⟩) ∧ (∀ b o, b < W.heap.size → w1.frozen? ⟨b, o, none⟩ = W.frozen? ⟨b, o, none⟩) :=
  ⟨fun b o h => hb.cell (p := ⟨b, o, none⟩) h, fun b o h => hb.frozen (p := ⟨b, o, none⟩) h⟩

theorem mask_any (b : Int) (w : World) (h0 : 0 ≤ b) (_h1 : b ≤ 32) :
    Calls Try.prog 35 #[.int .i64 b] w fun e w' => e = .returned (.int .u32 (4294967296 - p2 b)) ∧ w' = w := by
  have H := Lib.hid (mask_val b h0)
  go_enter Try.func35, Try.ntmps35
  go_wp2
  go_ret
  exact ⟨by rw [← H.out]; rfl, rfl⟩
theorem rightBits_yes (b : Int) (w : World) (h0 : 0 ≤ b) (h1 : b ≤ 32) : Calls Try.prog 34 #[.int .i64 b] w fun e w' => e = .returned (.bool true) ∧ w' = w := by
  go_enter Try.func34, Try.ntmps34
  go_wp2
  go_ret
  exact ⟨by simp, rfl⟩
theorem rightBits_no (b : Int) (w : World) (h : ¬ (0 ≤ b ∧ b ≤ 32)) : Calls Try.prog 34 #[.int .i64 b] w fun e w' => e = .returned (.bool false) ∧ w' = w := by
  by_cases h0 : 0 ≤ b
  · have h1 : 32 < b := by omega
    clear h
    go_enter Try.func34, Try.ntmps34
    go_wp2
    go_ret
    exact ⟨by simp; omega, rfl⟩
  · clear h
    go_enter Try.func34, Try.ntmps34
    go_wp2
    go_ret
    exact ⟨rfl, rfl⟩
theorem right_any (a b : Int) (w : World) (ha0 : 0 ≤ a) (ha1 : a < 4294967296) :
    Calls Try.prog 21 #[.agg #[.int .u32 a, .int .i64 b]] w fun e w' => e = .returned (.bool (okB a b)) ∧ Below w.heap.size w w' := by
  by_cases h : 0 ≤ b ∧ b ≤ 32
  · obtain ⟨h0, h1⟩ := h
    have H := Lib.hid (andNot_mask a b ha0 ha1 h0)
    go_enter Try.func21, Try.ntmps21
    go_wp2
    go_quiet (first | (go_at_call 34; exact Calls.quiet_of_same (rightBits_yes _ _ h0 h1)) | (go_at_call 35; exact Calls.quiet_of_same (mask_any _ _ h0 h1)))
    go_wp2
    go_ret
    refine ⟨ret_bool ?_, bdrewN ((Below.refl _ w).alloc (Nat.le_refl _) _) nq⟩
    rw [H.out, Bool.eq_iff_iff, ok_iff]
    simp [h0, h1]
  · have e : okB a b = false := by
      cases e : okB a b
      · rfl
      · exact absurd ⟨(ok_out e).1, (ok_out e).2.1⟩ h
    rw [e]
    clear e
    go_enter Try.func21, Try.ntmps21
    go_wp2
    go_quiet ((go_at_call 34; exact Calls.quiet_of_same (rightBits_no _ _ h)))
    go_wp2
    go_ret
    exact ⟨rfl, bdrewN ((Below.refl _ w).alloc (Nat.le_refl _) _) nq⟩
theorem right_yes (a b : Int) (w : World) (ha0 : 0 ≤ a) (ha1 : a < 4294967296) (h : okB a b = true) :
    Calls Try.prog 21 #[.agg #[.int .u32 a, .int .i64 b]] w fun e w' => e = .returned (.bool true) ∧ Below w.heap.size w w' := by
  have := right_any a b w ha0 ha1; rwa [h] at this
theorem right_no (a b : Int) (w : World) (ha0 : 0 ≤ a) (ha1 : a < 4294967296) (h : okB a b = false) :
    Calls Try.prog 21 #[.agg #[.int .u32 a, .int .i64 b]] w fun e w' => e = .returned (.bool false) ∧ Below w.heap.size w w' := by
  have := right_any a b w ha0 ha1; rwa [h] at this

/-- What Has tells. -/
def hasB (base b x : Int) : Bool := okB base b && decide (x - x % p2 b = base)

/-- The world behind the boxing of a prefix. -/
theorem boxed (a b : Int) (w : World) : (w.alloc (.cells #[.int .u32 a, .int .i64 b] 36)).cell? ⟨w.heap.size, 0, none⟩ = some (.int .u32 a) ∧ (w.alloc (.cells #[.int .u32 a, .int .i64 b] 36)).cell? ⟨w.heap.size, 1, none⟩ = some (.int .i64 b) := ⟨by go_simp, by go_simp⟩

theorem below_box (a b : Int) (w : World) (dq : Nat) (osq : Array Obj) : Below w.heap.size w (Sort.grow (redrawn (w.alloc (.cells #[.int .u32 a, .int .i64 b] 36)) dq) osq) :=
  (((Below.refl _ w).alloc (Nat.le_refl _) _)).trans ((below_regrown _ dq osq).mono (by simp))

theorem has_any (a b x : Int) (w : World) (ha0 : 0 ≤ a) (ha1 : a < 4294967296) (hx0 : 0 ≤ x) (hx1 : x < 4294967296) :
    Calls Try.prog 24 #[.agg #[.int .u32 a, .int .i64 b], .int .u32 x] w fun e w' => e = .returned (.bool (hasB a b x)) ∧ Below w.heap.size w w' := by
  have k0 := cell_regrown (boxed a b w).1
  have k1 := cell_regrown (boxed a b w).2
  cases hok : okB a b
  · have HF := Lib.hid (show hasB a b x = false by simp [hasB, hok])
    have HR := Lib.hid fun d os => Calls.regrown_of (d := d) (os := os) (right_no a b (Sort.grow (redrawn (w.alloc (.cells #[.int .u32 a, .int .i64 b] 36)) d) os) ha0 ha1 hok)
    clear hok
    go_enter Try.func24, Try.ntmps24
    go_wp2
    refine wp_region_quiet_below (by kernel_rfl) (by kernel_rfl) ?_
    repeat (go_big_quiet_step (exact HR.out _ _))
    refine wpQuiet_nil ?_
    intro _ hw'
    obtain ⟨⟨dq, osq⟩, hw''⟩ := hw'
    subst hw''
    go_wp2
    go_ret
    exact ⟨by rw [HF.out]; rfl, below_box a b w dq osq⟩
  · have HB := Lib.hid (ok_out hok)
    have HF := Lib.hid (show hasB a b x = (bits .and .u32 x (4294967296 - p2 b) == a) by rw [and_mask x b hx0 hx1 HB.out.1 HB.out.2.1]; simp only [hasB, hok, Bool.true_and]; rw [Bool.eq_iff_iff]; simp)
    have HR := Lib.hid fun d os => Calls.regrown_of (d := d) (os := os) (right_yes a b (Sort.grow (redrawn (w.alloc (.cells #[.int .u32 a, .int .i64 b] 36)) d) os) ha0 ha1 hok)
    have HM := Lib.hid fun d os => Calls.regrown_of (d := d) (os := os) ((mask_any b (Sort.grow (redrawn (w.alloc (.cells #[.int .u32 a, .int .i64 b] 36)) d) os) HB.out.1 HB.out.2.1).mono fun _ _ ⟨he, hw⟩ => ⟨he, by rw [hw]; exact Below.refl _ _⟩)
    clear hok
    go_enter Try.func24, Try.ntmps24
    go_wp2
    refine wp_region_quiet_below (by kernel_rfl) (by kernel_rfl) ?_
    repeat (go_big_quiet_step (first | (go_at_call 21; exact HR.out _ _) | (go_at_call 35; exact HM.out _ _)))
    refine wpQuiet_nil ?_
    intro _ hw'
    obtain ⟨⟨dq, osq⟩, hw''⟩ := hw'
    subst hw''
    go_wp2
    go_ret
    exact ⟨by rw [HF.out]; rfl, below_box a b w dq osq⟩
theorem has_eq (a b x : Int) (t : Bool) (w : World) (ha0 : 0 ≤ a) (ha1 : a < 4294967296) (hx0 : 0 ≤ x) (hx1 : x < 4294967296) (h : hasB a b x = t) :
    Calls Try.prog 24 #[.agg #[.int .u32 a, .int .i64 b], .int .u32 x] w fun e w' => e = .returned (.bool t) ∧ Below w.heap.size w w' := by
  have := has_any a b x w ha0 ha1 hx0 hx1; rwa [h] at this

/-- What Within tells. -/
def withinB (a b a2 b2 : Int) : Bool := okB a b && hasB a2 b2 a && decide (b2 ≤ b)

theorem below_box2 (a b a2 b2 : Int) (w w1 : World) (h : Below ((w.alloc (.cells #[.int .u32 a, .int .i64 b] 36)).alloc (.cells #[.int .u32 a2, .int .i64 b2] 36)).heap.size ((w.alloc (.cells #[.int .u32 a, .int .i64 b] 36)).alloc (.cells #[.int .u32 a2, .int .i64 b2] 36)) w1) : Below w.heap.size w w1 :=
  (((Below.refl _ w).alloc (Nat.le_refl _) _).alloc (by simp) _).trans (h.mono (by simp; omega))

set_option maxHeartbeats 400000 in
theorem within_any (a b a2 b2 : Int) (w : World) (ha0 : 0 ≤ a) (ha1 : a < 4294967296) (hc0 : 0 ≤ a2) (hc1 : a2 < 4294967296) :
    Calls Try.prog 25 #[.agg #[.int .u32 a, .int .i64 b], .agg #[.int .u32 a2, .int .i64 b2]] w fun e w' => e = .returned (.bool (withinB a b a2 b2)) ∧ Below w.heap.size w w' := by
  cases hok : okB a b
  · have HF := Lib.hid (show withinB a b a2 b2 = false by simp [withinB, hok])
    have HR := Lib.hid fun W => right_no a b W ha0 ha1 hok
    clear hok
    go_enter Try.func25, Try.ntmps25
    go_wp2_with fail
    refine (HR.out _).mono ?_
    rintro e w1 ⟨rfl, hb⟩
    have HB := Lib.hid hb
    clear hb
    go_wp2_with fail
    go_ret
    exact ⟨by rw [HF.out]; rfl, below_box2 a b a2 b2 w w1 HB.out⟩
  · cases hh : hasB a2 b2 a
    · have HF := Lib.hid (show withinB a b a2 b2 = false by simp [withinB, hh])
      have HR := Lib.hid fun W => right_yes a b W ha0 ha1 hok
      have HH := Lib.hid fun W => has_eq a2 b2 a false W hc0 hc1 ha0 ha1 hh
      clear hok hh
      go_enter Try.func25, Try.ntmps25
      go_wp2_with fail
      refine (HR.out _).mono ?_
      rintro e w1 ⟨rfl, hb⟩
      obtain ⟨hc, hf⟩ := bcell hb
      have HB := Lib.hid hb
      clear hb
      go_wp2_with fail
      refine (HH.out _).mono ?_
      rintro e w2 ⟨rfl, hb2⟩
      have HB2 := Lib.hid hb2
      clear hb2
      go_wp2_with fail
      go_ret
      exact ⟨by rw [HF.out]; rfl, below_box2 a b a2 b2 w w2 (HB.out.trans (HB2.out.mono HB.out.size))⟩
    · have HF := Lib.hid (show withinB a b a2 b2 = decide (b2 ≤ b) by simp [withinB, hh, hok])
      have HR := Lib.hid fun W => right_yes a b W ha0 ha1 hok
      have HH := Lib.hid fun W => has_eq a2 b2 a true W hc0 hc1 ha0 ha1 hh
      clear hok hh
      go_enter Try.func25, Try.ntmps25
      go_wp2_with fail
      refine (HR.out _).mono ?_
      rintro e w1 ⟨rfl, hb⟩
      obtain ⟨hc, hf⟩ := bcell hb
      have HB := Lib.hid hb
      have hz : w.heap.size + 1 < w1.heap.size := by have := hb.size; simp at this; omega
      have hz0 : w.heap.size < w1.heap.size := by omega
      clear hb
      go_wp2_with fail
      refine (HH.out _).mono ?_
      rintro e w2 ⟨rfl, hb2⟩
      obtain ⟨hc2, hf2⟩ := bcell hb2
      have HB2 := Lib.hid hb2
      clear hb2
      go_wp2_with fail
      go_ret
      exact ⟨by rw [HF.out]; rfl, below_box2 a b a2 b2 w w2 (HB.out.trans (HB2.out.mono HB.out.size))⟩
theorem within_eq (a b a2 b2 : Int) (t : Bool) (w : World) (ha0 : 0 ≤ a) (ha1 : a < 4294967296) (hc0 : 0 ≤ a2) (hc1 : a2 < 4294967296) (h : withinB a b a2 b2 = t) :
    Calls Try.prog 25 #[.agg #[.int .u32 a, .int .i64 b], .agg #[.int .u32 a2, .int .i64 b2]] w fun e w' => e = .returned (.bool t) ∧ Below w.heap.size w w' := by
  have := within_any a b a2 b2 w ha0 ha1 hc0 hc1; rwa [h] at this

/-- What Overlap tells. -/
def overB (a b a2 b2 : Int) : Bool := withinB a b a2 b2 || withinB a2 b2 a b

theorem overlap_any (a b a2 b2 : Int) (w : World) (ha0 : 0 ≤ a) (ha1 : a < 4294967296) (hc0 : 0 ≤ a2) (hc1 : a2 < 4294967296) :
    Calls Try.prog 12 #[.agg #[.int .u32 a, .int .i64 b], .agg #[.int .u32 a2, .int .i64 b2]] w fun e w' => e = .returned (.bool (overB a b a2 b2)) ∧ Below w.heap.size w w' := by
  cases h1 : withinB a b a2 b2
  · have HF := Lib.hid (show overB a b a2 b2 = withinB a2 b2 a b by simp [overB, h1])
    have HR := Lib.hid fun W => within_eq a b a2 b2 false W ha0 ha1 hc0 hc1 h1
    have HH := Lib.hid fun W => within_any a2 b2 a b W hc0 hc1 ha0 ha1
    clear h1
    go_enter Try.func12, Try.ntmps12
    go_wp2_with fail
    refine (HR.out _).mono ?_
    rintro e w1 ⟨rfl, hb⟩
    obtain ⟨hc, hf⟩ := bcell hb
    have HB := Lib.hid hb
    clear hb
    go_wp2_with fail
    refine (HH.out _).mono ?_
    rintro e w2 ⟨rfl, hb2⟩
    have HB2 := Lib.hid hb2
    clear hb2
    go_wp2_with fail
    go_ret
    exact ⟨by rw [HF.out]; rfl, below_box2 a b a2 b2 w w2 (HB.out.trans (HB2.out.mono HB.out.size))⟩
  · have HF := Lib.hid (show overB a b a2 b2 = true by simp [overB, h1])
    have HR := Lib.hid fun W => within_eq a b a2 b2 true W ha0 ha1 hc0 hc1 h1
    clear h1
    go_enter Try.func12, Try.ntmps12
    go_wp2_with fail
    refine (HR.out _).mono ?_
    rintro e w1 ⟨rfl, hb⟩
    have HB := Lib.hid hb
    clear hb
    go_wp2_with fail
    go_ret
    exact ⟨by rw [HF.out]; rfl, below_box2 a b a2 b2 w w1 HB.out⟩
theorem overlap_eq (a b a2 b2 : Int) (t : Bool) (w : World) (ha0 : 0 ≤ a) (ha1 : a < 4294967296) (hc0 : 0 ≤ a2) (hc1 : a2 < 4294967296) (h : overB a b a2 b2 = t) :
    Calls Try.prog 12 #[.agg #[.int .u32 a, .int .i64 b], .agg #[.int .u32 a2, .int .i64 b2]] w fun e w' => e = .returned (.bool t) ∧ Below w.heap.size w w' := by
  have := overlap_any a b a2 b2 w ha0 ha1 hc0 hc1; rwa [h] at this

theorem wrap_p2 (b : Int) (h : 0 ≤ b) : wrap64 (2 ^ (32 - b).toNat) = p2 b := by
  have h1 := p2_pos b
  have h2 := p2_le b h
  show wrap64 (p2 b) = p2 b
  unfold wrap64
  omega

/-- What Size tells. -/
def sizeOf (a b : Int) : Int := if okB a b = true then p2 b else 0

theorem below_box1 (a b : Int) (w w1 : World) (h : Below (w.alloc (.cells #[.int .u32 a, .int .i64 b] 36)).heap.size (w.alloc (.cells #[.int .u32 a, .int .i64 b] 36)) w1) : Below w.heap.size w w1 :=
  ((Below.refl _ w).alloc (Nat.le_refl _) _).trans (h.mono (by simp))

theorem size_any (a b : Int) (w : World) (ha0 : 0 ≤ a) (ha1 : a < 4294967296) :
    Calls Try.prog 23 #[.agg #[.int .u32 a, .int .i64 b]] w fun e w' => e = .returned (.int .i64 (sizeOf a b)) ∧ Below w.heap.size w w' := by
  cases hok : okB a b
  · have HF := Lib.hid (show sizeOf a b = 0 by simp [sizeOf, hok])
    have HR := Lib.hid fun W => right_no a b W ha0 ha1 hok
    clear hok
    go_enter Try.func23, Try.ntmps23
    go_wp2_with fail
    refine (HR.out _).mono ?_
    rintro e w1 ⟨rfl, hb⟩
    have HB := Lib.hid hb
    clear hb
    go_wp2_with fail
    go_ret
    exact ⟨by rw [HF.out]; rfl, below_box1 a b w w1 HB.out⟩
  · obtain ⟨h0, h1, _⟩ := ok_out hok
    have HF := Lib.hid (show sizeOf a b = p2 b by simp [sizeOf, hok])
    have HR := Lib.hid fun W => right_yes a b W ha0 ha1 hok
    clear hok
    go_enter Try.func23, Try.ntmps23
    go_wp2_with fail
    refine (HR.out _).mono ?_
    rintro e w1 ⟨rfl, hb⟩
    obtain ⟨hc, hf⟩ := bcell hb
    have HB := Lib.hid hb
    clear hb
    go_wp2_with fail
    go_ret
    exact ⟨by rw [HF.out, ← wrap_p2 b h0]; rfl, below_box1 a b w w1 HB.out⟩
theorem size_eq (a b n : Int) (w : World) (ha0 : 0 ≤ a) (ha1 : a < 4294967296) (h : sizeOf a b = n) :
    Calls Try.prog 23 #[.agg #[.int .u32 a, .int .i64 b]] w fun e w' => e = .returned (.int .i64 n) ∧ Below w.heap.size w w' := by
  have := size_any a b w ha0 ha1; rwa [h] at this

/-- A valid prefix ends at the last address, or ahead of it. -/
theorem room {a b : Int} (h : okB a b = true) (h1 : a < 4294967296) : a + p2 b ≤ 4294967296 := by
  obtain ⟨h0, h32, hm⟩ := ok_out h
  obtain ⟨k, hk⟩ := p2_dvd h0
  rw [p2_0] at hk
  obtain ⟨m, hm⟩ := Int.dvd_of_emod_eq_zero hm
  have hp := p2_pos b
  rw [hm, hk] at h1
  have : m < k := Int.lt_of_mul_lt_mul_left h1 (Int.le_of_lt hp)
  have : p2 b * (m + 1) ≤ p2 b * k := Int.mul_le_mul_of_nonneg_left (by omega) (Int.le_of_lt hp)
  rw [hm, hk]
  rw [Int.mul_add, Int.mul_one] at this
  exact this

theorem at_no (a b k : Int) (w : World) (ha0 : 0 ≤ a) (ha1 : a < 4294967296) (h : k < 0 ∨ sizeOf a b ≤ k) :
    Calls Try.prog 39 #[.agg #[.int .u32 a, .int .i64 b], .int .i64 k] w fun e w' => e = .returned (.tuple #[.int .u32 0, .bool false]) ∧ Below w.heap.size w w' := by
  by_cases hk : k < 0
  · clear h
    go_enter Try.func39, Try.ntmps39
    go_wp2_with fail
    go_ret2
    exact ⟨rfl, (Below.refl _ w).alloc (Nat.le_refl _) _⟩
  · have h2 : sizeOf a b ≤ k := by omega
    have HS := Lib.hid fun W => size_any a b W ha0 ha1
    clear h
    go_enter Try.func39, Try.ntmps39
    go_wp2_with fail
    refine (HS.out _).mono ?_
    rintro e w1 ⟨rfl, hb⟩
    have HB := Lib.hid hb
    clear hb
    go_wp2_with fail
    go_ret2
    exact ⟨rfl, below_box1 a b w w1 HB.out⟩
theorem at_yes (a b k : Int) (w : World) (ha0 : 0 ≤ a) (ha1 : a < 4294967296) (h0 : 0 ≤ k) (h1 : k < sizeOf a b) :
    Calls Try.prog 39 #[.agg #[.int .u32 a, .int .i64 b], .int .i64 k] w fun e w' => e = .returned (.tuple #[.int .u32 (a + k), .bool true]) ∧ Below w.heap.size w w' := by
  have hok : okB a b = true := by
    cases e : okB a b
    · simp [sizeOf, e] at h1; omega
    · rfl
  have hr := room hok ha1
  have hs : sizeOf a b = p2 b := by simp [sizeOf, hok]
  have hp := p2_pos b
  have hk1 : k < 4294967296 := by omega
  have hk2 : a + k < 4294967296 := by omega
  have HS := Lib.hid fun W => size_any a b W ha0 ha1
  clear hs hok hr hp
  have h1' : ¬ sizeOf a b ≤ k := by omega
  go_enter Try.func39, Try.ntmps39
  go_wp2_with fail
  refine (HS.out _).mono ?_
  rintro e w1 ⟨rfl, hb⟩
  obtain ⟨hc, hf⟩ := bcell hb
  have HB := Lib.hid hb
  clear hb
  go_wp2_with fail
  go_ret2
  exact ⟨rfl, below_box1 a b w w1 HB.out⟩

theorem block_val (a n : Int) (ha0 : 0 ≤ a) (ha1 : a < 4294967296) : a / 2 ^ (32 - (20 + n % 13)).toNat * 2 ^ (32 - (20 + n % 13)).toNat % 4294967296 = a - a % p2 (20 + n % 13) := by
  show a / p2 (20 + n % 13) * p2 (20 + n % 13) % 4294967296 = a - a % p2 (20 + n % 13)
  have h1 := Int.mul_ediv_add_emod a (p2 (20 + n % 13))
  have h2 := Int.emod_nonneg a (Int.ne_of_gt (p2_pos (20 + n % 13)))
  have h3 : 0 ≤ p2 (20 + n % 13) * (a / p2 (20 + n % 13)) := Int.mul_nonneg (Int.le_of_lt (p2_pos _)) (Int.ediv_nonneg ha0 (Int.le_of_lt (p2_pos _)))
  rw [Int.mul_comm]
  omega
theorem block_any (a n : Int) (w : World) (ha0 : 0 ≤ a) (ha1 : a < 4294967296) (h0 : 0 ≤ n) (h1 : n < 256) :
    Calls Try.prog 22 #[.int .u32 a, .int .u8 n] w fun e w' => e = .returned (.agg #[.int .u32 (a - a % p2 (20 + n % 13)), .int .i64 (20 + n % 13)]) ∧ Below w.heap.size w w' := by
  have HV := Lib.hid (block_val a n ha0 ha1)
  go_enter Try.func22, Try.ntmps22
  go_wp2_with fail
  rw [HV.out]
  exact bodyPost_ret (v := .agg #[.int .u32 (a - a % p2 (20 + n % 13)), .int .i64 (20 + n % 13)]) (by simp [results, Try.results22, go_sem]) rfl ⟨rfl, (Below.refl _ _).alloc (Nat.le_refl _) _⟩
end Go.Proofs.Ytenolbgadlehpaa
