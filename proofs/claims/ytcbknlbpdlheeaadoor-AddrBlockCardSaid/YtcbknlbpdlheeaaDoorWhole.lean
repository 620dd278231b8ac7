/-
  Contracts of Whole (package addr) and of the statements' own 'right': what each returns, for every argument, and that nothing that was in memory has changed. Conditions: addresses are numbers of 32 bits, Bits a number of 64.
-/
import Derived.Test.YtcbknlbpdlheeaaDoorBits
namespace Go.Proofs.YtcbknlbpdlheeaaDoor
open Go.RowKit
theorem wrap_p2u (b : Int) (h : 0 ≤ b) : IntKind.u64.wrap (2 ^ (32 - b).toNat) = p2 b := by
  have h1 := p2_pos b
  have h2 := p2_le b h
  show IntKind.u64.wrap (p2 b) = p2 b
  simp only [IntKind.wrap, IntKind.bits, IntKind.signed]
  simp
  omega
theorem rightL_any (a b : Int) (w : World) (ha0 : 0 ≤ a) (ha1 : a < 4294967296) :
    Calls Tryd.prog 17 #[.agg #[.int .u32 a, .int .i64 b]] w fun e w' => e = .returned (.bool (okB a b)) ∧ Below w.heap.size w w' := by
  by_cases h0 : b < 0
  · have HF := Lib.hid (show okB a b = false by simp [okB]; omega)
    go_enter Tryd.func17, Tryd.ntmps17
    go_wp2_with fail
    go_ret
    exact ⟨by rw [HF.out]; rfl, (Below.refl _ w).alloc (Nat.le_refl _) _⟩
  · by_cases h1 : 32 < b
    · have HF := Lib.hid (show okB a b = false by simp [okB]; omega)
      go_enter Tryd.func17, Tryd.ntmps17
      go_wp2_with fail
      go_ret
      exact ⟨by rw [HF.out]; rfl, (Below.refl _ w).alloc (Nat.le_refl _) _⟩
    · have q1 := p2_pos b
      have q2 := p2_le b (by omega)
      have HF := Lib.hid (show okB a b = (a % p2 b == 0) by rw [Bool.eq_iff_iff, ok_iff]; simp; omega)
      have hv := wrap_p2u b (by omega)
      have hz : ¬ p2 b = 0 := by omega
      go_enter Tryd.func17, Tryd.ntmps17
      go_wp2_with fail
      go_quiet (fail)
      go_wp2_with fail
      go_ret
      exact ⟨by rw [HF.out]; rfl, bdrewN ((Below.refl _ w).alloc (Nat.le_refl _) _) nq⟩

/-- Whether two prefixes are the halves of one. -/
def wholeB (a b a2 b2 : Int) : Bool := decide (1 ≤ b ∧ b ≤ 32 ∧ a % p2 (b - 1) = 0 ∧ b2 = b ∧ a2 = a + p2 b)

theorem mod_sub (a p : Int) : (a - a % p) % p = 0 := by
  rw [Int.sub_emod, Int.emod_emod, Int.sub_self, Int.zero_emod]

theorem made_ok (a b : Int) (h0 : 0 ≤ b) (h1 : b ≤ 32) : okB (a - a % p2 b) b = true := ok_iff.2 ⟨h0, h1, mod_sub a (p2 b)⟩

theorem made_lo (a b : Int) (ha0 : 0 ≤ a) : 0 ≤ a - a % p2 b ∧ a - a % p2 b ≤ a := by
  have h1 := p2_pos b
  have h2 := Int.emod_nonneg a (Int.ne_of_gt h1)
  have h3 : a % p2 b ≤ a := by
    rw [Int.emod_def]
    have : 0 ≤ p2 b * (a / p2 b) := Int.mul_nonneg (Int.le_of_lt h1) (Int.ediv_nonneg ha0 (Int.le_of_lt h1))
    omega
  omega

theorem below_whole (a b a2 b2 : Int) (w w1 : World) (o3 : Obj) (h : Below (((w.alloc (.cells #[.int .u32 a, .int .i64 b] 36)).alloc (.cells #[.int .u32 a2, .int .i64 b2] 36)).alloc o3).heap.size (((w.alloc (.cells #[.int .u32 a, .int .i64 b] 36)).alloc (.cells #[.int .u32 a2, .int .i64 b2] 36)).alloc o3) w1) : Below w.heap.size w w1 :=
  ((((Below.refl _ w).alloc (Nat.le_refl _) _).alloc (by simp) _).alloc (by simp; omega) _).trans (h.mono (by simp; omega))

theorem set2 {B k : Nat} {w w1 : World} (h : Below B w w1) (hk : B ≤ k) (v0 v1 : Value) : Below B w ((w1.setCell ⟨k, 0, none⟩ v0).setCell ⟨k, 1, none⟩ v1) :=
  (h.setCell (p := ⟨k, 0, none⟩) hk v0).setCell (p := ⟨k, 1, none⟩) hk v1

set_option maxHeartbeats 400000 in
theorem whole_far (a b a2 b2 : Int) (w : World) (_ha0 : 0 ≤ a) (_ha1 : a < 4294967296) (hb0 : -9223372036854775808 < b) (hb1 : b ≤ 9223372036854775807) (h : b < 1 ∨ 33 < b) :
    Calls Tryd.prog 27 #[.agg #[.int .u32 a, .int .i64 b], .agg #[.int .u32 a2, .int .i64 b2]] w fun e w' => e = .returned (.tuple #[.agg #[.int .u32 0, .int .i64 0], .bool false]) ∧ Below w.heap.size w w' := by
  have HM := Lib.hid fun W => make_no a (b - 1) W (by omega)
  clear h
  have hb2 : -9223372036854775808 ≤ b - 1 := by omega
  go_enter Tryd.func27, Tryd.ntmps27
  go_wp2_with fail
  refine (HM.out _).mono ?_
  rintro e w1 ⟨rfl, hb⟩
  obtain ⟨hc, hf⟩ := bcell hb
  have hz0 : w.heap.size < w1.heap.size := by have := hb.size; simp at this; omega
  have hz1 : w.heap.size + 1 < w1.heap.size := by have := hb.size; simp at this; omega
  have hz2 : w.heap.size + 1 + 1 < w1.heap.size := by have := hb.size; simp at this; omega
  have HB := Lib.hid hb
  clear hb
  go_wp2_with fail
  exact bodyPost_ret (v := .tuple #[.agg #[.int .u32 0, .int .i64 0], .bool false]) (by simp [results, Tryd.results27, go_sem, hc, hz2]) rfl ⟨rfl, ((set2 (below_whole a b a2 b2 w w1 _ HB.out) (by omega) _ _).alloc (by simp [World.setCell]; omega) _)⟩
theorem whole_end {w w1 w2 : World} (o6 o8 o9 : Obj) (h1 : Below w.heap.size w w1) (h2 : Below (w1.alloc o6).heap.size (w1.alloc o6) w2) (v0 v1 : Value) :
    Below w.heap.size w ((((w2.setCell ⟨w.heap.size + 1 + 1, 0, none⟩ v0).setCell ⟨w.heap.size + 1 + 1, 1, none⟩ v1).alloc o8).alloc o9) := by
  have h := (h1.alloc h1.size o6).trans (h2.mono (by have := h1.size; simp; omega))
  have hs := h.size
  exact ((set2 h (by omega) v0 v1).alloc (by simpa [World.setCell] using hs) o8).alloc (by simp [World.setCell]; omega) o9

set_option maxHeartbeats 1000000 in
theorem whole_n1 (a b a2 b2 m u : Int) (w : World) (hb0 : 0 ≤ b) (hb1 : b ≤ 31) (HM : Hid (∀ W, Calls Tryd.prog 15 #[.int .u32 a, .int .i64 b] W fun e w' => e = .returned (.tuple #[.agg #[.int .u32 m, .int .i64 b], .bool true]) ∧ Below W.heap.size W w')) (HH : Hid (∀ W, Calls Tryd.prog 26 #[.agg #[.int .u32 m, .int .i64 b]] W fun e w' => e = .returned (.tuple #[.agg #[.int .u32 m, .int .i64 (b + 1)], .agg #[.int .u32 u, .int .i64 (b + 1)], .bool true]) ∧ Below W.heap.size W w')) (_h1 : ¬ m = a) (h1' : (m == a) = false) :
    Calls Tryd.prog 27 #[.agg #[.int .u32 a, .int .i64 (b + 1)], .agg #[.int .u32 a2, .int .i64 b2]] w fun e w' => e = .returned (.tuple #[.agg #[.int .u32 0, .int .i64 0], .bool false]) ∧ Below w.heap.size w w' := by
  go_enter Tryd.func27, Tryd.ntmps27
  go_wp2_with fail
  refine (HM.out _).mono ?_
  rintro e w1 ⟨rfl, hb⟩
  obtain ⟨hc, hf⟩ := bcell hb
  have hz0 : w.heap.size < w1.heap.size := by have := hb.size; simp at this; omega
  have hz1 : w.heap.size + 1 < w1.heap.size := by have := hb.size; simp at this; omega
  have hz2 : w.heap.size + 1 + 1 < w1.heap.size := by have := hb.size; simp at this; omega
  have HB := Lib.hid hb
  clear hb
  go_wp2_with fail
  refine (HH.out _).mono ?_
  rintro e w2 ⟨rfl, hb2⟩
  obtain ⟨hc2, hf2⟩ := bcell hb2
  have hy0 : w.heap.size < w2.heap.size := by have := hb2.size; simp at this; omega
  have hy1 : w.heap.size + 1 < w2.heap.size := by have := hb2.size; simp at this; omega
  have hy2 : w.heap.size + 1 + 1 < w2.heap.size := by have := hb2.size; simp at this; omega
  have hy3 : w1.heap.size < w2.heap.size := by have := hb2.size; simp at this; omega
  have HB2 := Lib.hid hb2
  clear hb2
  go_wp2_with fail
  exact bodyPost_ret (v := .tuple #[.agg #[.int .u32 0, .int .i64 0], .bool false]) (by simp [results, Tryd.results27, go_sem, hc, hc2, hz2, hz1, hy1, hy2]) rfl ⟨rfl, whole_end _ _ _ (below_whole a (b + 1) a2 b2 w w1 _ HB.out) HB2.out _ _⟩
set_option maxHeartbeats 1000000 in
theorem whole_n2 (a b a2 b2 u : Int) (w : World) (hb0 : 0 ≤ b) (hb1 : b ≤ 31) (HM : Hid (∀ W, Calls Tryd.prog 15 #[.int .u32 a, .int .i64 b] W fun e w' => e = .returned (.tuple #[.agg #[.int .u32 a, .int .i64 b], .bool true]) ∧ Below W.heap.size W w')) (HH : Hid (∀ W, Calls Tryd.prog 26 #[.agg #[.int .u32 a, .int .i64 b]] W fun e w' => e = .returned (.tuple #[.agg #[.int .u32 a, .int .i64 (b + 1)], .agg #[.int .u32 u, .int .i64 (b + 1)], .bool true]) ∧ Below W.heap.size W w')) (h1' : (u == a2) = false) :
    Calls Tryd.prog 27 #[.agg #[.int .u32 a, .int .i64 (b + 1)], .agg #[.int .u32 a2, .int .i64 b2]] w fun e w' => e = .returned (.tuple #[.agg #[.int .u32 0, .int .i64 0], .bool false]) ∧ Below w.heap.size w w' := by
  go_enter Tryd.func27, Tryd.ntmps27
  go_wp2_with fail
  refine (HM.out _).mono ?_
  rintro e w1 ⟨rfl, hb⟩
  obtain ⟨hc, hf⟩ := bcell hb
  have hz0 : w.heap.size < w1.heap.size := by have := hb.size; simp at this; omega
  have hz1 : w.heap.size + 1 < w1.heap.size := by have := hb.size; simp at this; omega
  have hz2 : w.heap.size + 1 + 1 < w1.heap.size := by have := hb.size; simp at this; omega
  have HB := Lib.hid hb
  clear hb
  go_wp2_with fail
  refine (HH.out _).mono ?_
  rintro e w2 ⟨rfl, hb2⟩
  obtain ⟨hc2, hf2⟩ := bcell hb2
  have hy0 : w.heap.size < w2.heap.size := by have := hb2.size; simp at this; omega
  have hy1 : w.heap.size + 1 < w2.heap.size := by have := hb2.size; simp at this; omega
  have hy2 : w.heap.size + 1 + 1 < w2.heap.size := by have := hb2.size; simp at this; omega
  have hy3 : w1.heap.size < w2.heap.size := by have := hb2.size; simp at this; omega
  have HB2 := Lib.hid hb2
  clear hb2
  go_wp2_with fail
  exact bodyPost_ret (v := .tuple #[.agg #[.int .u32 0, .int .i64 0], .bool false]) (by simp [results, Tryd.results27, go_sem, hc, hc2, hz2, hz1, hy1, hy2]) rfl ⟨rfl, whole_end _ _ _ (below_whole a (b + 1) a2 b2 w w1 _ HB.out) HB2.out _ _⟩
set_option maxHeartbeats 1000000 in
theorem whole_n3 (a b a2 b2 u : Int) (w : World) (hb0 : 0 ≤ b) (hb1 : b ≤ 31) (HM : Hid (∀ W, Calls Tryd.prog 15 #[.int .u32 a, .int .i64 b] W fun e w' => e = .returned (.tuple #[.agg #[.int .u32 a, .int .i64 b], .bool true]) ∧ Below W.heap.size W w')) (HH : Hid (∀ W, Calls Tryd.prog 26 #[.agg #[.int .u32 a, .int .i64 b]] W fun e w' => e = .returned (.tuple #[.agg #[.int .u32 a, .int .i64 (b + 1)], .agg #[.int .u32 u, .int .i64 (b + 1)], .bool true]) ∧ Below W.heap.size W w')) (h1' : (b + 1 == b2) = false) :
    Calls Tryd.prog 27 #[.agg #[.int .u32 a, .int .i64 (b + 1)], .agg #[.int .u32 a2, .int .i64 b2]] w fun e w' => e = .returned (.tuple #[.agg #[.int .u32 0, .int .i64 0], .bool false]) ∧ Below w.heap.size w w' := by
  go_enter Tryd.func27, Tryd.ntmps27
  go_wp2_with fail
  refine (HM.out _).mono ?_
  rintro e w1 ⟨rfl, hb⟩
  obtain ⟨hc, hf⟩ := bcell hb
  have hz0 : w.heap.size < w1.heap.size := by have := hb.size; simp at this; omega
  have hz1 : w.heap.size + 1 < w1.heap.size := by have := hb.size; simp at this; omega
  have hz2 : w.heap.size + 1 + 1 < w1.heap.size := by have := hb.size; simp at this; omega
  have HB := Lib.hid hb
  clear hb
  go_wp2_with fail
  refine (HH.out _).mono ?_
  rintro e w2 ⟨rfl, hb2⟩
  obtain ⟨hc2, hf2⟩ := bcell hb2
  have hy0 : w.heap.size < w2.heap.size := by have := hb2.size; simp at this; omega
  have hy1 : w.heap.size + 1 < w2.heap.size := by have := hb2.size; simp at this; omega
  have hy2 : w.heap.size + 1 + 1 < w2.heap.size := by have := hb2.size; simp at this; omega
  have hy3 : w1.heap.size < w2.heap.size := by have := hb2.size; simp at this; omega
  have HB2 := Lib.hid hb2
  clear hb2
  go_wp2_with fail
  exact bodyPost_ret (v := .tuple #[.agg #[.int .u32 0, .int .i64 0], .bool false]) (by simp [results, Tryd.results27, go_sem, hc, hc2, hz2, hz1, hy1, hy2]) rfl ⟨rfl, whole_end _ _ _ (below_whole a (b + 1) a2 b2 w w1 _ HB.out) HB2.out _ _⟩
set_option maxHeartbeats 1000000 in
theorem whole_y (a b u : Int) (w : World) (hb0 : 0 ≤ b) (hb1 : b ≤ 31) (HM : Hid (∀ W, Calls Tryd.prog 15 #[.int .u32 a, .int .i64 b] W fun e w' => e = .returned (.tuple #[.agg #[.int .u32 a, .int .i64 b], .bool true]) ∧ Below W.heap.size W w')) (HH : Hid (∀ W, Calls Tryd.prog 26 #[.agg #[.int .u32 a, .int .i64 b]] W fun e w' => e = .returned (.tuple #[.agg #[.int .u32 a, .int .i64 (b + 1)], .agg #[.int .u32 u, .int .i64 (b + 1)], .bool true]) ∧ Below W.heap.size W w')) :
    Calls Tryd.prog 27 #[.agg #[.int .u32 a, .int .i64 (b + 1)], .agg #[.int .u32 u, .int .i64 (b + 1)]] w fun e w' => e = .returned (.tuple #[.agg #[.int .u32 a, .int .i64 b], .bool true]) ∧ Below w.heap.size w w' := by
  go_enter Tryd.func27, Tryd.ntmps27
  go_wp2_with fail
  refine (HM.out _).mono ?_
  rintro e w1 ⟨rfl, hb⟩
  obtain ⟨hc, hf⟩ := bcell hb
  have hz0 : w.heap.size < w1.heap.size := by have := hb.size; simp at this; omega
  have hz1 : w.heap.size + 1 < w1.heap.size := by have := hb.size; simp at this; omega
  have hz2 : w.heap.size + 1 + 1 < w1.heap.size := by have := hb.size; simp at this; omega
  have HB := Lib.hid hb
  clear hb
  go_wp2_with fail
  refine (HH.out _).mono ?_
  rintro e w2 ⟨rfl, hb2⟩
  obtain ⟨hc2, hf2⟩ := bcell hb2
  have hy0 : w.heap.size < w2.heap.size := by have := hb2.size; simp at this; omega
  have hy1 : w.heap.size + 1 < w2.heap.size := by have := hb2.size; simp at this; omega
  have hy2 : w.heap.size + 1 + 1 < w2.heap.size := by have := hb2.size; simp at this; omega
  have hy3 : w1.heap.size < w2.heap.size := by have := hb2.size; simp at this; omega
  have HB2 := Lib.hid hb2
  clear hb2
  go_wp2_with fail
  exact bodyPost_ret (v := .tuple #[.agg #[.int .u32 a, .int .i64 b], .bool true]) (by simp [results, Tryd.results27, go_sem, hc, hc2, hz2, hz1, hy1, hy2]) rfl ⟨rfl, whole_end _ _ _ (below_whole a (b + 1) u (b + 1) w w1 _ HB.out) HB2.out _ _⟩

set_option maxHeartbeats 1000000 in
theorem whole_33 (a a2 b2 : Int) (w : World) (ha0 : 0 ≤ a) (ha1 : a < 4294967296) :
    Calls Tryd.prog 27 #[.agg #[.int .u32 a, .int .i64 33], .agg #[.int .u32 a2, .int .i64 b2]] w fun e w' => e = .returned (.tuple #[.agg #[.int .u32 0, .int .i64 0], .bool false]) ∧ Below w.heap.size w w' := by
  have HM := Lib.hid fun W => make_yes a 32 W ha0 ha1 (by decide) (by decide)
  obtain ⟨m, hm⟩ : ∃ m, m = a - a % p2 32 := ⟨_, rfl⟩
  have hm1 : m = a := by rw [hm, p2_32]; omega
  rw [← hm, hm1] at HM
  clear hm hm1
  have HH := Lib.hid fun W => halves_no a 32 W ha0 ha1 (by simp [halvesB])
  go_enter Tryd.func27, Tryd.ntmps27
  go_wp2_with fail
  refine (HM.out _).mono ?_
  rintro e w1 ⟨rfl, hb⟩
  obtain ⟨hc, hf⟩ := bcell hb
  have hz0 : w.heap.size < w1.heap.size := by have := hb.size; simp at this; omega
  have hz1 : w.heap.size + 1 < w1.heap.size := by have := hb.size; simp at this; omega
  have hz2 : w.heap.size + 1 + 1 < w1.heap.size := by have := hb.size; simp at this; omega
  have HB := Lib.hid hb
  clear hb
  go_wp2_with fail
  refine (HH.out _).mono ?_
  rintro e w2 ⟨rfl, hb2⟩
  obtain ⟨hc2, hf2⟩ := bcell hb2
  have hy0 : w.heap.size < w2.heap.size := by have := hb2.size; simp at this; omega
  have hy1 : w.heap.size + 1 < w2.heap.size := by have := hb2.size; simp at this; omega
  have hy2 : w.heap.size + 1 + 1 < w2.heap.size := by have := hb2.size; simp at this; omega
  have hy3 : w1.heap.size < w2.heap.size := by have := hb2.size; simp at this; omega
  have HB2 := Lib.hid hb2
  clear hb2
  go_wp2_with fail
  exact bodyPost_ret (v := .tuple #[.agg #[.int .u32 0, .int .i64 0], .bool false]) (by simp [results, Tryd.results27, go_sem, hc, hc2, hz2, hz1, hy1, hy2]) rfl ⟨rfl, whole_end _ _ _ (below_whole a 33 a2 b2 w w1 _ HB.out) HB2.out _ _⟩

/-- What Whole returns. -/
def wholeV (a b a2 b2 : Int) : Value := if wholeB a b a2 b2 = true then .tuple #[.agg #[.int .u32 a, .int .i64 (b - 1)], .bool true] else .tuple #[.agg #[.int .u32 0, .int .i64 0], .bool false]

theorem whole_min (a b a2 b2 : Int) (w : World) (h : Hid (b = -9223372036854775808)) :
    Calls Tryd.prog 27 #[.agg #[.int .u32 a, .int .i64 b], .agg #[.int .u32 a2, .int .i64 b2]] w fun e w' => e = .returned (.tuple #[.agg #[.int .u32 0, .int .i64 0], .bool false]) ∧ Below w.heap.size w w' := by
  have HM := Lib.hid fun W => make_no a (wrap64 (b - 1)) W (by have := h.out; unfold wrap64; omega)
  go_enter Tryd.func27, Tryd.ntmps27
  go_wp2_with fail
  refine (HM.out _).mono ?_
  rintro e w1 ⟨rfl, hb⟩
  obtain ⟨hc, hf⟩ := bcell hb
  have hz0 : w.heap.size < w1.heap.size := by have := hb.size; simp at this; omega
  have hz1 : w.heap.size + 1 < w1.heap.size := by have := hb.size; simp at this; omega
  have hz2 : w.heap.size + 1 + 1 < w1.heap.size := by have := hb.size; simp at this; omega
  have HB := Lib.hid hb
  clear hb
  go_wp2_with fail
  exact bodyPost_ret (v := .tuple #[.agg #[.int .u32 0, .int .i64 0], .bool false]) (by simp [results, Tryd.results27, go_sem, hc, hz2]) rfl ⟨rfl, ((set2 (below_whole a b a2 b2 w w1 _ HB.out) (by omega) _ _).alloc (by simp [World.setCell]; omega) _)⟩

theorem whole_any (a b a2 b2 : Int) (w : World) (ha0 : 0 ≤ a) (ha1 : a < 4294967296) (hb0 : -9223372036854775808 ≤ b) (hb1 : b ≤ 9223372036854775807) :
    Calls Tryd.prog 27 #[.agg #[.int .u32 a, .int .i64 b], .agg #[.int .u32 a2, .int .i64 b2]] w fun e w' => e = .returned (wholeV a b a2 b2) ∧ Below w.heap.size w w' := by
  have no : ∀ {P : Prop}, wholeB a b a2 b2 = false → Calls Tryd.prog 27 #[.agg #[.int .u32 a, .int .i64 b], .agg #[.int .u32 a2, .int .i64 b2]] w (fun e w' => e = .returned (.tuple #[.agg #[.int .u32 0, .int .i64 0], .bool false]) ∧ Below w.heap.size w w') → Calls Tryd.prog 27 #[.agg #[.int .u32 a, .int .i64 b], .agg #[.int .u32 a2, .int .i64 b2]] w fun e w' => e = .returned (wholeV a b a2 b2) ∧ Below w.heap.size w w' :=
    fun h c => c.mono fun _ _ ⟨he, hw⟩ => ⟨by rw [he, wholeV, h]; rfl, hw⟩
  by_cases h1 : b < 1 ∨ 33 < b
  · refine no (P := True) (by simp [wholeB]; omega) ?_
    by_cases hm : b = -9223372036854775808
    · exact whole_min a b a2 b2 w hm
    · exact whole_far a b a2 b2 w ha0 ha1 (by omega) hb1 h1
  · by_cases h33 : b = 33
    · subst h33
      exact no (P := True) (by simp [wholeB]) (whole_33 a a2 b2 w ha0 ha1)
    · obtain ⟨c, rfl⟩ : ∃ c, b = c + 1 := ⟨b - 1, by omega⟩
      have hc0 : 0 ≤ c := by omega
      have hc1 : c ≤ 31 := by omega
      obtain ⟨hl0, hl1⟩ := made_lo a c ha0
      have HM := Lib.hid fun W => make_yes a c W ha0 ha1 hc0 (by omega)
      have HH := Lib.hid fun W => halves_yes (a - a % p2 c) c W hl0 (by omega) (by simp [halvesB, made_ok a c hc0 (by omega)]; omega)
      by_cases hd : a % p2 c = 0
      · have e : a - a % p2 c = a := by omega
        rw [e] at HM HH
        by_cases h2 : a2 = a + p2 (c + 1)
        · by_cases h3 : b2 = c + 1
          · subst h2 h3
            refine (whole_y a c _ w hc0 hc1 HM HH).mono fun _ _ ⟨he, hw⟩ => ⟨?_, hw⟩
            have : wholeB a (c + 1) (a + p2 (c + 1)) (c + 1) = true := by
              unfold wholeB
              exact decide_eq_true ⟨by omega, by omega, by rw [show c + 1 - 1 = c by omega]; exact hd, rfl, rfl⟩
            rw [he, wholeV, if_pos this, show c + 1 - 1 = c by omega]
          · exact no (P := True) (by simp [wholeB, h3]) (whole_n3 a c a2 b2 _ w hc0 hc1 HM HH (by simp; omega))
        · exact no (P := True) (by simp [wholeB, h2]) (whole_n2 a c a2 b2 _ w hc0 hc1 HM HH (by simp; omega))
      · have hn : ¬ a - a % p2 c = a := by omega
        exact no (P := True) (by simp only [wholeB, decide_eq_false_iff_not]; rw [show c + 1 - 1 = c by omega]; exact fun h => hd h.2.2.1) (whole_n1 a c a2 b2 _ _ w hc0 hc1 HM HH hn (by simp only [beq_eq_false_iff_ne]; exact hn))
end Go.Proofs.YtcbknlbpdlheeaaDoor
