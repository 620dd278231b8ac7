/-
  HeldUsed, walked. Conditions: the row that came in has not more than its room.
-/
import Derived.Test.YtafmcnnbeoffdaaSom
set_option linter.unusedSimpArgs false
set_option linter.unusedVariables false
namespace Go.Proofs.Ytafmcnnbeoffdaa
open Go.RowKit

/-- A valid prefix has the addresses from its first one on, as many as its size. -/
theorem has_iff {a b x : Int} (h : okB a b = true) : hasB a b x = true ↔ a ≤ x ∧ x < a + p2 b := by
  obtain ⟨_, _, hm⟩ := ok_out h
  have hp := p2_pos b
  have h2 := Int.emod_nonneg x (by omega : p2 b ≠ 0)
  have h3 := Int.emod_lt_of_pos x hp
  simp only [hasB, h, Bool.true_and, decide_eq_true_eq]
  constructor
  · intro e
    omega
  · rintro ⟨h4, h5⟩
    have : (x - a) % p2 b = x - a := Int.emod_eq_of_lt (by omega) (by omega)
    have h6 : x % p2 b = (x - a) % p2 b := by
      rw [Int.sub_emod, hm, Int.sub_zero, Int.emod_emod_of_dvd _ (Int.dvd_refl _)]
    omega
theorem half_ok {A b : Int} (h : okB A b = true) (h1 : b < 32) : okB A (b + 1) = true ∧ okB (A + p2 (b + 1)) (b + 1) = true := by
  obtain ⟨h0, _, hm⟩ := ok_out h
  have hs := p2_succ b h1
  have e : A % p2 (b + 1) = 0 := Int.emod_eq_zero_of_dvd (Int.dvd_trans (p2_dvd (by omega)) (Int.dvd_of_emod_eq_zero hm))
  exact ⟨ok_iff.2 ⟨by omega, by omega, e⟩, ok_iff.2 ⟨by omega, by omega, by rw [Int.add_emod_right]; exact e⟩⟩
theorem has_half {A b : Int} (h : okB A b = true) (h1 : b < 32) (x : Int) : (hasB A (b + 1) x = true ∧ hasB (A + p2 (b + 1)) (b + 1) x = false ∧ hasB A b x = true) ∨ (hasB A (b + 1) x = false ∧ hasB (A + p2 (b + 1)) (b + 1) x = true ∧ hasB A b x = true) ∨ (hasB A (b + 1) x = false ∧ hasB (A + p2 (b + 1)) (b + 1) x = false ∧ hasB A b x = false) := by
  obtain ⟨k1, k2⟩ := half_ok h h1
  have hs := p2_succ b h1
  have hp := p2_pos (b + 1)
  simp only [← Bool.not_eq_true, has_iff h, has_iff k1, has_iff k2]
  omega
theorem filter_two {α : Type} (p q r : α → Bool) (h : ∀ x, (p x = true ∧ q x = false ∧ r x = true) ∨ (p x = false ∧ q x = true ∧ r x = true) ∨ (p x = false ∧ q x = false ∧ r x = false)) : ∀ l : List α, (l.filter p).length + (l.filter q).length = (l.filter r).length
  | [] => rfl
  | x :: l => by
    have ih := filter_two p q r h l
    rcases h x with ⟨a, b, c⟩ | ⟨a, b, c⟩ | ⟨a, b, c⟩ <;> simp [List.filter_cons, a, b, c] <;> omega
theorem used_half {A b : Int} (h : okB A b = true) (h1 : b < 32) (ys : List Hr) : usedN A (b + 1) ys + usedN (A + p2 (b + 1)) (b + 1) ys = usedN A b ys :=
  filter_two _ _ _ (fun x => has_half h h1 x.a) _
theorem used_all (ys : List Hr) (h : ∀ x ∈ ys, x.ok) : usedN 0 0 ys = ys.length := by
  unfold usedN us
  rw [List.take_length, List.filter_eq_self.2]
  intro x hx
  have := h x hx
  rw [has_iff (by decide)]
  have e : p2 0 = 4294967296 := p2_0
  rw [e]
  exact ⟨this.1, by have := this.2.1; omega⟩
/-- The statements' own prefix. -/
def bs (na n : Int) : Int := na - na % p2 n
theorem bs_eq {na n : Int} (h0 : 0 ≤ na) (h1 : na < 4294967296) : na / 2 ^ (32 - n).toNat * 2 ^ (32 - n).toNat % 4294967296 = bs na n := by
  have hp := p2_pos n
  have h2 := Int.mul_ediv_add_emod na (p2 n)
  have h3 := Int.emod_nonneg na (by omega : p2 n ≠ 0)
  have h4 : 0 ≤ p2 n * (na / p2 n) := Int.mul_nonneg (by omega) (Int.ediv_nonneg h0 (by omega))
  show na / p2 n * p2 n % 4294967296 = na - na % p2 n
  rw [Int.mul_comm]
  omega
theorem bs_in {na n : Int} (h0 : 0 ≤ na) (h1 : na < 4294967296) : 0 ≤ bs na n ∧ bs na n < 4294967296 := by
  have hp := p2_pos n
  have h2 := Int.mul_ediv_add_emod na (p2 n)
  have h3 := Int.emod_nonneg na (by omega : p2 n ≠ 0)
  have h4 : 0 ≤ p2 n * (na / p2 n) := Int.mul_nonneg (by omega) (Int.ediv_nonneg h0 (by omega))
  unfold bs
  omega
theorem bs_ok {na n : Int} (h0 : 0 ≤ n) (h1 : n ≤ 32) : okB (bs na n) n = true := by
  refine ok_iff.2 ⟨h0, h1, ?_⟩
  unfold bs
  rw [Int.sub_emod, Int.emod_emod_of_dvd _ (Int.dvd_refl _), Int.sub_self]
  rfl

set_option maxRecDepth 100000 in
set_option maxHeartbeats 4000000 in
theorem heldUsed_walk (A : Option Addr) (xs : List Ac) (cap : Nat) (p q : Int) (w : World) (h : Ra w A xs) (hcap : xs.length ≤ cap) (p0 : 0 ≤ p) (p1 : p < 256) (q0 : 0 ≤ q) (q1 : q < 256) :
    Calls Try.prog 8 #[.slice A xs.length cap, .int .u8 p, .int .u8 q] w fun e w' => e = .returned (.bool true) ∧ Below w.heap.size w w' := by
  obtain ⟨n, hn⟩ : ∃ n : Int, 26 + q % 6 = n := ⟨_, rfl⟩
  have n0 : 26 ≤ n := by omega
  have n1 : n ≤ 31 := by omega
  have hnn := near_in p
  have HN := Lib.hid fun W => near_any p W p0 p1
  generalize near p = na at *
  have hbs := bs_eq (n := n) hnn.1 hnn.2
  have hbi := bs_in (n := n) hnn.1 hnn.2
  have hok : okB (bs na n) n = true := bs_ok (by omega) (by omega)
  generalize bs na n = a at *
  obtain ⟨k1, k2⟩ := half_ok hok (by omega)
  have hrm := room hok hbi.2
  have hps := p2_succ n (by omega)
  have hpp := p2_pos (n + 1)
  have HH := Lib.hid fun W => halves_yes a n W hbi.1 hbi.2 (by simp only [halvesB, hok, Bool.true_and]; exact decide_eq_true (by omega))
  have HUH := Lib.hid fun ys => used_half hok (by omega) ys
  have HUA := Lib.hid used_all
  have hi2 : a + p2 (n + 1) < 4294967296 := by omega
  clear hok k1 k2 hrm hps
  generalize p2 (n + 1) = P at *
  have HSO := Lib.hid fun W (hW : Below w.heap.size w W) => some_any A xs cap W (h.below hW) hcap
  generalize SM xs (min xs.length 60) = ys at *
  obtain ⟨YL, hYL⟩ : ∃ YL, ys.length = YL := ⟨_, rfl⟩
  clear h
  go_enter Try.func8, Try.ntmps8
  go_wp2_with fail
  refine (awake_any _).mono ?_
  rintro e w1 ⟨rfl, hb1⟩
  have B1 := Lib.hid hb1
  clear hb1
  go_wp2_with fail
  refine (HSO.out _ B1.out).mono ?_
  rintro e w2 ⟨A2, c2, rfl, hc2, _, hH2, hb2⟩
  have B2 := Lib.hid (B1.out.trans (hb2.mono B1.out.size))
  have R2 := Lib.hid hH2
  have HYL := Lib.hid hYL
  rw [hYL] at hc2 ⊢
  have hY47 : YL ≤ 140737488355328 := by rw [← hYL]; exact hH2.1
  clear hb2 hH2 hYL HSO
  go_wp2_with fail
  refine (HN.out _).mono ?_
  rintro e w3 ⟨rfl, rfl⟩
  go_wp2_with fail
  refine (HH.out _).mono ?_
  rintro e w4 ⟨rfl, hb⟩
  obtain ⟨hc4, hf4⟩ := bcell hb
  have z4 : w3.heap.size < w4.heap.size := by have := hb.size; simp at this; omega
  have z4' : w3.heap.size < w4.heap.size + 1 := by omega
  have B4 := Lib.hid (B2.out.trans ((hx_below _ hb).mono B2.out.size))
  have R4 := Lib.hid (R2.out.below (hx_below _ hb))
  have HCC := Lib.hid hc2
  have n1' : n < 32 := by omega
  clear hb hbs hn HN HH B1 B2 R2
  go_wp2_with fail
  have f90 : ((w4.alloc (.cells #[.int .u32 a, .int .i64 (n + 1)] 50)).alloc (.cells #[.int .u32 (a + P), .int .i64 (n + 1)] 50)).cell? ⟨w3.heap.size, 0, none⟩ = some (.int .u32 a) := by go_simp
  have f91 : ((w4.alloc (.cells #[.int .u32 a, .int .i64 (n + 1)] 50)).alloc (.cells #[.int .u32 (a + P), .int .i64 (n + 1)] 50)).cell? ⟨w3.heap.size, 1, none⟩ = some (.int .i64 n) := by go_simp
  have f100 : ((w4.alloc (.cells #[.int .u32 a, .int .i64 (n + 1)] 50)).alloc (.cells #[.int .u32 (a + P), .int .i64 (n + 1)] 50)).cell? ⟨w4.heap.size, 0, none⟩ = some (.int .u32 a) := by go_simp
  have f101 : ((w4.alloc (.cells #[.int .u32 a, .int .i64 (n + 1)] 50)).alloc (.cells #[.int .u32 (a + P), .int .i64 (n + 1)] 50)).cell? ⟨w4.heap.size, 1, none⟩ = some (.int .i64 (n + 1)) := by go_simp
  have f110 : ((w4.alloc (.cells #[.int .u32 a, .int .i64 (n + 1)] 50)).alloc (.cells #[.int .u32 (a + P), .int .i64 (n + 1)] 50)).cell? ⟨w4.heap.size + 1, 0, none⟩ = some (.int .u32 (a + P)) := by go_simp
  have f111 : ((w4.alloc (.cells #[.int .u32 a, .int .i64 (n + 1)] 50)).alloc (.cells #[.int .u32 (a + P), .int .i64 (n + 1)] 50)).cell? ⟨w4.heap.size + 1, 1, none⟩ = some (.int .i64 (n + 1)) := by go_simp
  have B6' : Below w4.heap.size w4 ((w4.alloc (.cells #[.int .u32 a, .int .i64 (n + 1)] 50)).alloc (.cells #[.int .u32 (a + P), .int .i64 (n + 1)] 50)) := ((Below.refl _ w4).alloc (Nat.le_refl _) _).alloc (by simp) _
  have B6 := Lib.hid (B4.out.trans (B6'.mono B4.out.size))
  have R6 := Lib.hid (R4.out.below B6')
  clear hc4 hf4 B6' B4 R4
  generalize (w4.alloc (.cells #[.int .u32 a, .int .i64 (n + 1)] 50)).alloc (.cells #[.int .u32 (a + P), .int .i64 (n + 1)] 50) = W at *
  have g90 := cell_regrown f90
  have g91 := cell_regrown f91
  have g100 := cell_regrown f100
  have g101 := cell_regrown f101
  have g110 := cell_regrown f110
  have g111 := cell_regrown f111
  clear f90 f91 f100 f101 f110 f111
  have hU := HUH.out ys
  have hA := HUA.out ys (hs_oks R6.out)
  rw [HYL.out] at hA
  have hle : usedN a n ys ≤ YL := by
    have := us_le a n ys ys.length
    rw [HYL.out] at this
    unfold usedN
    rw [HYL.out]
    exact this
  have CU := Lib.hid fun (A' b' : Int) (h0 : 0 ≤ A') (h1 : A' < 4294967296) (d : Nat) (os : Array Obj) => Calls.regrown_of (d := d) (os := os) (by
    have := used_any A' b' A2 ys c2 (Sort.grow (redrawn W d) os) (R6.out.below (below_regrown W d os)) (by rw [HYL.out]; exact HCC.out) h0 h1
    rw [HYL.out] at this
    exact this)
  have hUI : IntKind.i64.wrap ((usedN a (n + 1) ys : Int) + (usedN (a + P) (n + 1) ys : Int)) = (usedN a n ys : Int) := by rw [IntKind.wrap_i64]; omega
  have C1 := Lib.hid fun d os => CU.out a (n + 1) hbi.1 hbi.2 d os
  have C2 := Lib.hid fun d os => CU.out (a + P) (n + 1) (by omega) hi2 d os
  have C3 := Lib.hid fun d os => CU.out a n hbi.1 hbi.2 d os
  have C4 := Lib.hid fun d os => CU.out 0 0 (by omega) (by omega) d os
  rw [hA] at C4
  clear CU HUH HUA
  generalize usedN a (n + 1) ys = U1 at *
  generalize usedN (a + P) (n + 1) ys = U2 at *
  generalize usedN a n ys = U3 at *
  have hle' : (U3 : Int) ≤ YL := by omega
  clear hU hA hle
  refine wp_region_quiet_below (by kernel_rfl) (by kernel_rfl) ?_
  repeat (go_big_quiet_step ((go_at_call 22; first | (with_reducible exact C1.out _ _) | (with_reducible exact C2.out _ _) | (with_reducible exact C3.out _ _) | (with_reducible exact C4.out _ _))))
  refine wpQuiet_nil ?_
  intro _ hw'
  obtain ⟨⟨dq, osq⟩, hw''⟩ := hw'
  subst hw''
  have B7 := Lib.hid (B6.out.trans ((below_regrown W dq osq).mono B6.out.size))
  go_wp2_with fail
  go_ret
  exact ⟨rfl, B7.out⟩
end Go.Proofs.Ytafmcnnbeoffdaa
