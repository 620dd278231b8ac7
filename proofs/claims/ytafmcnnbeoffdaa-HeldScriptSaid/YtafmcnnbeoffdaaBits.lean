/-
  Contracts of the arithmetic half of package addr (mask, rightBits, Right, Make, Has, Within, Overlap, Size, At, Halves) and of the statements' own Block: what each returns, for every argument, and that nothing that was in memory has changed. Conditions: addresses are numbers of 32 bits.
-/
import Derived.Test.YtafmcnnbeoffdaaProg
import Derived.Test.YtafmcnnbeoffdaaMath
import Derived.WalkKit
import Derived.WalkLawsBesides
import Derived.BigQuiet
import Derived.Deep.QuietTactic
import Derived.Lib.QuietBelow
import Derived.Lib.Hide
namespace Go.Proofs.Ytafmcnnbeoffdaa
open Go.RowKit

theorem ret_bool {a b : Bool} (h : a = b) : Ending.returned (.bool a) = .returned (.bool b) := by rw [h]
theorem ret_int {k : IntKind} {a b : Int} (h : a = b) : Ending.returned (.int k a) = .returned (.int k b) := by rw [h]
theorem bdrewN {B : Nat} {a w : World} (h : Below B a w) (n : Nat) : Below B a (w.drewN n) := h.trans ⟨rfl, rfl, rfl, Nat.le_refl _, fun _ _ => rfl⟩
theorem bcell {W w1 : World} (hb : Below W.heap.size W w1) : (∀ b o, b < W.heap.size → w1.cell? ⟨b, o, none⟩ = W.cell? ⟨b, o, none⟩) ∧ (∀ b o, b < W.heap.size → w1.frozen? ⟨b, o, none⟩ = W.frozen? ⟨b, o, none⟩) :=
  ⟨fun b o h => hb.cell (p := ⟨b, o, none⟩) h, fun b o h => hb.frozen (p := ⟨b, o, none⟩) h⟩

theorem mask_any (b : Int) (w : World) (h0 : 0 ≤ b) (_h1 : b ≤ 32) :
    Calls Try.prog 30 #[.int .i64 b] w fun e w' => e = .returned (.int .u32 (4294967296 - p2 b)) ∧ w' = w := by
  have H := Lib.hid (mask_val b h0)
  go_enter Try.func30, Try.ntmps30
  go_wp2
  go_ret
  exact ⟨by rw [← H.out]; rfl, rfl⟩
theorem rightBits_yes (b : Int) (w : World) (h0 : 0 ≤ b) (h1 : b ≤ 32) : Calls Try.prog 29 #[.int .i64 b] w fun e w' => e = .returned (.bool true) ∧ w' = w := by
  go_enter Try.func29, Try.ntmps29
  go_wp2
  go_ret
  exact ⟨by simp, rfl⟩
theorem rightBits_no (b : Int) (w : World) (h : ¬ (0 ≤ b ∧ b ≤ 32)) : Calls Try.prog 29 #[.int .i64 b] w fun e w' => e = .returned (.bool false) ∧ w' = w := by
  by_cases h0 : 0 ≤ b
  · have h1 : 32 < b := by omega
    clear h
    go_enter Try.func29, Try.ntmps29
    go_wp2
    go_ret
    exact ⟨by simp; omega, rfl⟩
  · clear h
    go_enter Try.func29, Try.ntmps29
    go_wp2
    go_ret
    exact ⟨rfl, rfl⟩
theorem right_any (a b : Int) (w : World) (ha0 : 0 ≤ a) (ha1 : a < 4294967296) :
    Calls Try.prog 20 #[.agg #[.int .u32 a, .int .i64 b]] w fun e w' => e = .returned (.bool (okB a b)) ∧ Below w.heap.size w w' := by
  by_cases h : 0 ≤ b ∧ b ≤ 32
  · obtain ⟨h0, h1⟩ := h
    have H := Lib.hid (andNot_mask a b ha0 ha1 h0)
    go_enter Try.func20, Try.ntmps20
    go_wp2
    go_quiet (first | (go_at_call 29; exact Calls.quiet_of_same (rightBits_yes _ _ h0 h1)) | (go_at_call 30; exact Calls.quiet_of_same (mask_any _ _ h0 h1)))
    go_wp2
    go_ret
    refine ⟨ret_bool ?_, bdrewN ((Below.refl _ w).alloc (Nat.le_refl _) _) nq⟩
    rw [H.out, Bool.eq_iff_iff, ok_iff]
    simp [h0, h1]
  · have e : okB a b = false := by
      cases e : okB a b
      · rfl
      · exact absurd ⟨(ok_out e).1, (ok_out e).2.1⟩ h
    rw [e]
    clear e
    go_enter Try.func20, Try.ntmps20
    go_wp2
    go_quiet ((go_at_call 29; exact Calls.quiet_of_same (rightBits_no _ _ h)))
    go_wp2
    go_ret
    exact ⟨rfl, bdrewN ((Below.refl _ w).alloc (Nat.le_refl _) _) nq⟩
theorem right_yes (a b : Int) (w : World) (ha0 : 0 ≤ a) (ha1 : a < 4294967296) (h : okB a b = true) :
    Calls Try.prog 20 #[.agg #[.int .u32 a, .int .i64 b]] w fun e w' => e = .returned (.bool true) ∧ Below w.heap.size w w' := by
  have := right_any a b w ha0 ha1; rwa [h] at this
theorem right_no (a b : Int) (w : World) (ha0 : 0 ≤ a) (ha1 : a < 4294967296) (h : okB a b = false) :
    Calls Try.prog 20 #[.agg #[.int .u32 a, .int .i64 b]] w fun e w' => e = .returned (.bool false) ∧ Below w.heap.size w w' := by
  have := right_any a b w ha0 ha1; rwa [h] at this

/-- What Has tells. -/
def hasB (base b x : Int) : Bool := okB base b && decide (x - x % p2 b = base)

/-- The world behind the boxing of a prefix. -/
theorem boxed (a b : Int) (w : World) : (w.alloc (.cells #[.int .u32 a, .int .i64 b] 50)).cell? ⟨w.heap.size, 0, none⟩ = some (.int .u32 a) ∧ (w.alloc (.cells #[.int .u32 a, .int .i64 b] 50)).cell? ⟨w.heap.size, 1, none⟩ = some (.int .i64 b) := ⟨by go_simp, by go_simp⟩

theorem below_box (a b : Int) (w : World) (dq : Nat) (osq : Array Obj) : Below w.heap.size w (Sort.grow (redrawn (w.alloc (.cells #[.int .u32 a, .int .i64 b] 50)) dq) osq) :=
  (((Below.refl _ w).alloc (Nat.le_refl _) _)).trans ((below_regrown _ dq osq).mono (by simp))

theorem has_any (a b x : Int) (w : World) (ha0 : 0 ≤ a) (ha1 : a < 4294967296) (hx0 : 0 ≤ x) (hx1 : x < 4294967296) :
    Calls Try.prog 21 #[.agg #[.int .u32 a, .int .i64 b], .int .u32 x] w fun e w' => e = .returned (.bool (hasB a b x)) ∧ Below w.heap.size w w' := by
  have k0 := cell_regrown (boxed a b w).1
  have k1 := cell_regrown (boxed a b w).2
  cases hok : okB a b
  · have HF := Lib.hid (show hasB a b x = false by simp [hasB, hok])
    have HR := Lib.hid fun d os => Calls.regrown_of (d := d) (os := os) (right_no a b (Sort.grow (redrawn (w.alloc (.cells #[.int .u32 a, .int .i64 b] 50)) d) os) ha0 ha1 hok)
    clear hok
    go_enter Try.func21, Try.ntmps21
    go_wp2
    refine wp_region_quiet_below (by kernel_rfl) (by kernel_rfl) ?_
    repeat (go_big_quiet_step (exact HR.out _ _))
    refine wpQuiet_nil ?_
    intro _ hw'
    obtain ⟨⟨dq, osq⟩, hw''⟩ := hw'
    subst hw''
    go_wp2
    go_ret
    exact ⟨by rw [HF.out]; rfl, below_box a b w dq osq⟩
  · have HB := Lib.hid (ok_out hok)
    have HF := Lib.hid (show hasB a b x = (bits .and .u32 x (4294967296 - p2 b) == a) by rw [and_mask x b hx0 hx1 HB.out.1 HB.out.2.1]; simp only [hasB, hok, Bool.true_and]; rw [Bool.eq_iff_iff]; simp)
    have HR := Lib.hid fun d os => Calls.regrown_of (d := d) (os := os) (right_yes a b (Sort.grow (redrawn (w.alloc (.cells #[.int .u32 a, .int .i64 b] 50)) d) os) ha0 ha1 hok)
    have HM := Lib.hid fun d os => Calls.regrown_of (d := d) (os := os) ((mask_any b (Sort.grow (redrawn (w.alloc (.cells #[.int .u32 a, .int .i64 b] 50)) d) os) HB.out.1 HB.out.2.1).mono fun _ _ ⟨he, hw⟩ => ⟨he, by rw [hw]; exact Below.refl _ _⟩)
    clear hok
    go_enter Try.func21, Try.ntmps21
    go_wp2
    refine wp_region_quiet_below (by kernel_rfl) (by kernel_rfl) ?_
    repeat (go_big_quiet_step (first | (go_at_call 20; exact HR.out _ _) | (go_at_call 30; exact HM.out _ _)))
    refine wpQuiet_nil ?_
    intro _ hw'
    obtain ⟨⟨dq, osq⟩, hw''⟩ := hw'
    subst hw''
    go_wp2
    go_ret
    exact ⟨by rw [HF.out]; rfl, below_box a b w dq osq⟩
theorem has_eq (a b x : Int) (t : Bool) (w : World) (ha0 : 0 ≤ a) (ha1 : a < 4294967296) (hx0 : 0 ≤ x) (hx1 : x < 4294967296) (h : hasB a b x = t) :
    Calls Try.prog 21 #[.agg #[.int .u32 a, .int .i64 b], .int .u32 x] w fun e w' => e = .returned (.bool t) ∧ Below w.heap.size w w' := by
  have := has_any a b x w ha0 ha1 hx0 hx1; rwa [h] at this

theorem wrap_p2 (b : Int) (h : 0 ≤ b) : wrap64 (2 ^ (32 - b).toNat) = p2 b := by
  have h1 := p2_pos b
  have h2 := p2_le b h
  show wrap64 (p2 b) = p2 b
  unfold wrap64
  omega

/-- What Size tells. -/
def sizeOf (a b : Int) : Int := if okB a b = true then p2 b else 0

theorem below_box1 (a b : Int) (w w1 : World) (h : Below (w.alloc (.cells #[.int .u32 a, .int .i64 b] 50)).heap.size (w.alloc (.cells #[.int .u32 a, .int .i64 b] 50)) w1) : Below w.heap.size w w1 :=
  ((Below.refl _ w).alloc (Nat.le_refl _) _).trans (h.mono (by simp))

theorem size_any (a b : Int) (w : World) (ha0 : 0 ≤ a) (ha1 : a < 4294967296) :
    Calls Try.prog 32 #[.agg #[.int .u32 a, .int .i64 b]] w fun e w' => e = .returned (.int .i64 (sizeOf a b)) ∧ Below w.heap.size w w' := by
  cases hok : okB a b
  · have HF := Lib.hid (show sizeOf a b = 0 by simp [sizeOf, hok])
    have HR := Lib.hid fun W => right_no a b W ha0 ha1 hok
    clear hok
    go_enter Try.func32, Try.ntmps32
    go_wp2_with fail
    refine (HR.out _).mono ?_
    rintro e w1 ⟨rfl, hb⟩
    have HB := Lib.hid hb
    clear hb
    go_wp2_with fail
    go_ret
    exact ⟨by rw [HF.out]; rfl, below_box1 a b w w1 HB.out⟩
  · obtain ⟨h0, h1, _⟩ := ok_out hok
    have HF := Lib.hid (show sizeOf a b = p2 b by simp [sizeOf, hok])
    have HR := Lib.hid fun W => right_yes a b W ha0 ha1 hok
    clear hok
    go_enter Try.func32, Try.ntmps32
    go_wp2_with fail
    refine (HR.out _).mono ?_
    rintro e w1 ⟨rfl, hb⟩
    obtain ⟨hc, hf⟩ := bcell hb
    have HB := Lib.hid hb
    clear hb
    go_wp2_with fail
    go_ret
    exact ⟨by rw [HF.out, ← wrap_p2 b h0]; rfl, below_box1 a b w w1 HB.out⟩
theorem size_eq (a b n : Int) (w : World) (ha0 : 0 ≤ a) (ha1 : a < 4294967296) (h : sizeOf a b = n) :
    Calls Try.prog 32 #[.agg #[.int .u32 a, .int .i64 b]] w fun e w' => e = .returned (.int .i64 n) ∧ Below w.heap.size w w' := by
  have := size_any a b w ha0 ha1; rwa [h] at this

/-- A valid prefix ends at the last address, or ahead of it. -/
theorem room {a b : Int} (h : okB a b = true) (h1 : a < 4294967296) : a + p2 b ≤ 4294967296 := by
  obtain ⟨h0, h32, hm⟩ := ok_out h
  obtain ⟨k, hk⟩ := p2_dvd h0
  rw [p2_0] at hk
  obtain ⟨m, hm⟩ := Int.dvd_of_emod_eq_zero hm
  have hp := p2_pos b
  rw [hm, hk] at h1
  have : m < k := Int.lt_of_mul_lt_mul_left h1 (Int.le_of_lt hp)
  have : p2 b * (m + 1) ≤ p2 b * k := Int.mul_le_mul_of_nonneg_left (by omega) (Int.le_of_lt hp)
  rw [hm, hk]
  rw [Int.mul_add, Int.mul_one] at this
  exact this

theorem at_no (a b k : Int) (w : World) (ha0 : 0 ≤ a) (ha1 : a < 4294967296) (h : k < 0 ∨ sizeOf a b ≤ k) :
    Calls Try.prog 28 #[.agg #[.int .u32 a, .int .i64 b], .int .i64 k] w fun e w' => e = .returned (.tuple #[.int .u32 0, .bool false]) ∧ Below w.heap.size w w' := by
  by_cases hk : k < 0
  · clear h
    go_enter Try.func28, Try.ntmps28
    go_wp2_with fail
    go_ret2
    exact ⟨rfl, (Below.refl _ w).alloc (Nat.le_refl _) _⟩
  · have h2 : sizeOf a b ≤ k := by omega
    have HS := Lib.hid fun W => size_any a b W ha0 ha1
    clear h
    go_enter Try.func28, Try.ntmps28
    go_wp2_with fail
    refine (HS.out _).mono ?_
    rintro e w1 ⟨rfl, hb⟩
    have HB := Lib.hid hb
    clear hb
    go_wp2_with fail
    go_ret2
    exact ⟨rfl, below_box1 a b w w1 HB.out⟩
theorem at_yes (a b k : Int) (w : World) (ha0 : 0 ≤ a) (ha1 : a < 4294967296) (h0 : 0 ≤ k) (h1 : k < sizeOf a b) :
    Calls Try.prog 28 #[.agg #[.int .u32 a, .int .i64 b], .int .i64 k] w fun e w' => e = .returned (.tuple #[.int .u32 (a + k), .bool true]) ∧ Below w.heap.size w w' := by
  have hok : okB a b = true := by
    cases e : okB a b
    · simp [sizeOf, e] at h1; omega
    · rfl
  have hr := room hok ha1
  have hs : sizeOf a b = p2 b := by simp [sizeOf, hok]
  have hp := p2_pos b
  have hk1 : k < 4294967296 := by omega
  have hk2 : a + k < 4294967296 := by omega
  have HS := Lib.hid fun W => size_any a b W ha0 ha1
  clear hs hok hr hp
  have h1' : ¬ sizeOf a b ≤ k := by omega
  go_enter Try.func28, Try.ntmps28
  go_wp2_with fail
  refine (HS.out _).mono ?_
  rintro e w1 ⟨rfl, hb⟩
  obtain ⟨hc, hf⟩ := bcell hb
  have HB := Lib.hid hb
  clear hb
  go_wp2_with fail
  go_ret2
  exact ⟨rfl, below_box1 a b w w1 HB.out⟩

/-- Whether a prefix has halves. -/
def halvesB (a b : Int) : Bool := okB a b && decide (b ≠ 32)

theorem below_box3 (a b : Int) (w w1 : World) (o2 o3 : Obj) (h : Below (((w.alloc (.cells #[.int .u32 a, .int .i64 b] 50)).alloc o2).alloc o3).heap.size (((w.alloc (.cells #[.int .u32 a, .int .i64 b] 50)).alloc o2).alloc o3) w1) : Below w.heap.size w w1 :=
  ((((Below.refl _ w).alloc (Nat.le_refl _) _).alloc (by simp) _).alloc (by simp; omega) _).trans (h.mono (by simp; omega))

theorem set4 {B k l : Nat} {w w1 : World} (h : Below B w w1) (hk : B ≤ k) (hl : B ≤ l) (v0 v1 v2 v3 : Value) : Below B w ((((w1.setCell ⟨k, 0, none⟩ v0).setCell ⟨k, 1, none⟩ v1).setCell ⟨l, 0, none⟩ v2).setCell ⟨l, 1, none⟩ v3) :=
  (((h.setCell (p := ⟨k, 0, none⟩) hk v0).setCell (p := ⟨k, 1, none⟩) hk v1).setCell (p := ⟨l, 0, none⟩) hl v2).setCell (p := ⟨l, 1, none⟩) hl v3

set_option maxHeartbeats 400000 in
theorem halves_no (a b : Int) (w : World) (ha0 : 0 ≤ a) (ha1 : a < 4294967296) (h : halvesB a b = false) :
    Calls Try.prog 23 #[.agg #[.int .u32 a, .int .i64 b]] w fun e w' => e = .returned (.tuple #[.agg #[.int .u32 0, .int .i64 0], .agg #[.int .u32 0, .int .i64 0], .bool false]) ∧ Below w.heap.size w w' := by
  cases hok : okB a b
  · have HR := Lib.hid fun W => right_no a b W ha0 ha1 hok
    clear hok h
    go_enter Try.func23, Try.ntmps23
    go_wp2_with fail
    refine (HR.out _).mono ?_
    rintro e w1 ⟨rfl, hb⟩
    obtain ⟨hc, hf⟩ := bcell hb
    have HB := Lib.hid hb
    clear hb
    go_wp2_with fail
    exact bodyPost_ret (v := .tuple #[.agg #[.int .u32 0, .int .i64 0], .agg #[.int .u32 0, .int .i64 0], .bool false]) (by simp [results, Try.results23, go_sem, hc]) rfl ⟨rfl, set4 (below_box3 a b w w1 _ _ HB.out) (by omega) (by omega) _ _ _ _⟩
  · have hb : b = 32 := by
      by_cases e : b = 32
      · exact e
      · simp [halvesB, hok, e] at h
    have hB : (b == 32) = true := by simp [hb]
    have HR := Lib.hid fun W => right_yes a b W ha0 ha1 hok
    clear hok h hb
    go_enter Try.func23, Try.ntmps23
    go_wp2_with fail
    refine (HR.out _).mono ?_
    rintro e w1 ⟨rfl, hb⟩
    obtain ⟨hc, hf⟩ := bcell hb
    have HB := Lib.hid hb
    clear hb
    go_wp2_with fail
    exact bodyPost_ret (v := .tuple #[.agg #[.int .u32 0, .int .i64 0], .agg #[.int .u32 0, .int .i64 0], .bool false]) (by simp [results, Try.results23, go_sem, hc]) rfl ⟨rfl, set4 (below_box3 a b w w1 _ _ HB.out) (by omega) (by omega) _ _ _ _⟩

set_option maxHeartbeats 400000 in
theorem halves_yes (a b : Int) (w : World) (ha0 : 0 ≤ a) (ha1 : a < 4294967296) (h : halvesB a b = true) :
    Calls Try.prog 23 #[.agg #[.int .u32 a, .int .i64 b]] w fun e w' => e = .returned (.tuple #[.agg #[.int .u32 a, .int .i64 (b + 1)], .agg #[.int .u32 (a + p2 (b + 1)), .int .i64 (b + 1)], .bool true]) ∧ Below w.heap.size w w' := by
  have hok : okB a b = true := by simp [halvesB] at h; exact h.1
  have hn : b ≠ 32 := by simp [halvesB] at h; exact h.2
  obtain ⟨h0, h1, hm⟩ := ok_out hok
  have h2 : b < 32 := by omega
  have HO := Lib.hid (show bits .or .u32 a (2 ^ (32 - (b + 1)).toNat % 4294967296) = a + p2 (b + 1) by
    have q1 := p2_succ b h2
    have q2 := p2_le b h0
    have q3 := p2_pos (b + 1)
    rw [show (2 : Int) ^ (32 - (b + 1)).toNat % 4294967296 = p2 (b + 1) from by show p2 (b + 1) % 4294967296 = _; omega]
    exact or_half a b ha0 ha1 h0 h2 hm)
  have hB : (b == 32) = false := by simp [hn]
  have HR := Lib.hid fun W => right_yes a b W ha0 ha1 hok
  clear hok h hn hm
  go_enter Try.func23, Try.ntmps23
  go_wp2_with fail
  refine (HR.out _).mono ?_
  rintro e w1 ⟨rfl, hb⟩
  obtain ⟨hc, hf⟩ := bcell hb
  have HB := Lib.hid hb
  clear hb
  go_wp2_with fail
  go_quiet (fail)
  go_wp2_with fail
  rw [HO.out]
  exact bodyPost_ret (v := .tuple #[.agg #[.int .u32 a, .int .i64 (b + 1)], .agg #[.int .u32 (a + p2 (b + 1)), .int .i64 (b + 1)], .bool true]) (by simp [results, Try.results23, go_sem, hc]) rfl ⟨rfl, set4 (bdrewN (below_box3 a b w w1 _ _ HB.out) nq) (by omega) (by omega) _ _ _ _⟩
end Go.Proofs.Ytafmcnnbeoffdaa
