/-
  The contracts of sweep.place and of sweep.anyOverlap. Conditions: the row lies in memory, and its addresses are numbers of 32 bits.
-/
import Derived.Test.YtenolbgadlehpaaClk
set_option linter.unusedSimpArgs false
set_option linter.unusedVariables false
namespace Go.Proofs.Ytenolbgadlehpaa
open Go.RowKit

/-- How many sweeps of a row stand ahead of an address. -/
def lo : List Sw → Int → Nat
  | [], _ => 0
  | x :: r, a => if x.a < a then lo r a + 1 else 0
theorem lo_le (a : Int) : ∀ xs, lo xs a ≤ xs.length
  | [] => Nat.le_refl _
  | x :: r => by
    unfold lo
    have := lo_le a r
    split <;> simp
    omega
theorem lo_lt (a : Int) : ∀ (xs : List Sw) (k : Nat) (x : Sw), k < lo xs a → xs[k]? = some x → x.a < a
  | [], k, x, h, _ => by simp [lo] at h
  | y :: r, k, x, h, hx => by
    unfold lo at h
    split at h
    · rename_i hy
      cases k with
      | zero => simp at hx; subst hx; exact hy
      | succ k => exact lo_lt a r k x (by omega) (by simpa using hx)
    · omega
theorem lo_ge (a : Int) : ∀ (xs : List Sw) (x : Sw), xs[lo xs a]? = some x → ¬ x.a < a
  | [], x, hx => by simp at hx
  | y :: r, x, hx => by
    unfold lo at hx
    split at hx
    · exact lo_ge a r x (by simpa using hx)
    · rename_i hy
      simp at hx
      subst hx
      exact hy
theorem bl_at {w : World} {y : Addr} {a b : Int} (h0 : w.cell? y = some (.int .u32 a)) (h1 : w.cell? (y.add 1) = some (.int .i64 b)) : ∀ j v, (bl ⟨a, b⟩)[j]? = some v → w.cell? (y.add j) = some v := by
  intro j v hv
  match j, hv with
  | 0, hv => simp [bl] at hv; subst hv; rw [Addr.add_zero']; exact h0
  | 1, hv => simp [bl] at hv; subst hv; exact h1
  | j + 2, hv => simp [bl] at hv
/-- Whether the prefix is swept there. -/
def isAt (xs : List Sw) (a b : Int) : Bool := match xs[lo xs a]? with
  | some x => eqb x.a x.b a b
  | none => false

theorem rw_c0 {w : World} {y : Addr} {xs : List Sw} (R : Rw eW w (some y) xs) {k : Nat} {x : Sw} (hx : xs[k]? = some x) : w.cell? (y.add (k * 4)) = some (.int .u32 x.a) ∧ w.cell? (y.add (k * 4 + 1)) = some (.int .i64 x.b) ∧ w.cell? (y.add (k * 4 + 2)) = some (.int .i64 x.d) ∧ w.cell? (y.add (k * 4 + 3)) = some (.int .i64 x.n) := by
  have h := fun j v hv => R.at hx j v hv
  have e : ∀ j, (y.add (k * eW.N)).add j = y.add (k * 4 + j) := fun j => by rw [Addr.add_add]; rfl
  refine ⟨?_, ?_, ?_, ?_⟩
  · have := h 0 _ rfl; rwa [e] at this
  · have := h 1 _ rfl; rwa [e] at this
  · have := h 2 _ rfl; rwa [e] at this
  · have := h 3 _ rfl; rwa [e] at this

set_option maxRecDepth 100000 in
set_option maxHeartbeats 2000000 in
theorem place_any (a b : Int) (A : Option Addr) (xs : List Sw) (cap : Nat) (w : World) (h : Rw eW w A xs) :
    Calls Try.prog 29 #[.slice A xs.length cap, .agg #[.int .u32 a, .int .i64 b]] w fun e w' => e = .returned (.tuple #[.int .i64 (lo xs a), .bool (isAt xs a b)]) ∧ Below w.heap.size w w' := by
  have hle := lo_le a xs
  have hln := h.1
  have R := Lib.hid (h.below ((Below.refl _ w).alloc (Nat.le_refl _) (Bkx a b)))
  have HB := Lib.hid (show Below w.heap.size w (w.alloc (Bkx a b)) from (Below.refl _ w).alloc (Nat.le_refl _) _)
  clear h
  have HI := Lib.hid (show isAt xs a b = _ by unfold isAt; rfl)
  obtain ⟨L, hL⟩ : ∃ L, xs.length = L := ⟨_, rfl⟩
  have HL := Lib.hid hL
  rw [hL] at hle hln ⊢
  clear hL
  obtain ⟨P, hP⟩ : ∃ P, lo xs a = P := ⟨_, rfl⟩
  have HP := Lib.hid hP
  rw [hP] at hle ⊢
  clear hP
  have b0 : (w.alloc (Bkx a b)).cell? ⟨w.heap.size, 0, none⟩ = some (.int .u32 a) := by simp [Bkx]
  have b1 : (w.alloc (Bkx a b)).cell? ⟨w.heap.size, 1, none⟩ = some (.int .i64 b) := by simp [Bkx]
  unfold Bkx at *
  go_enter Try.func29, Try.ntmps29
  go_wp2_with fail
  generalize w.alloc (.cells #[.int .u32 a, .int .i64 b] 36) = W at *
  go_loopw [6] (fun i wr => ∃ (k n : Nat), i = .int .i64 k ∧ k ≤ P ∧ Hid (wr = W.drewN n)) (fun i _ => P - (intOf i).toNat)
  case atStart => exact ⟨0, 0, rfl, by omega, Lib.hid rfl⟩
  case round =>
    obtain ⟨k, n, rfl, hk, HW⟩ := hrel
    have d0 : wr.cell? ⟨w.heap.size, 0, none⟩ = some (.int .u32 a) := by rw [HW.out]; exact b0
    have d1 : wr.cell? ⟨w.heap.size, 1, none⟩ = some (.int .i64 b) := by rw [HW.out]; exact b1
    have RW : Hid (Rw eW wr A xs) := Lib.hid (by rw [HW.out]; exact R.out.drewN n)
    have HBW : Hid (Below w.heap.size w wr) := Lib.hid (by rw [HW.out]; exact bdrewN HB.out n)
    by_cases hkL : k < L
    · obtain ⟨x, hx⟩ : ∃ x, xs[k]? = some x := ⟨_, List.getElem?_eq_getElem (by rw [HL.out]; exact hkL)⟩
      obtain ⟨y, rfl⟩ := rw_some R.out (by rw [HL.out]; omega)
      obtain ⟨c0, c1, -, -⟩ := rw_c0 RW.out hx
      by_cases hlt : k < P
      · have hxa : x.a < a := lo_lt a xs k x (by rw [HP.out]; exact hlt) hx
        clear hx
        go_wp2_with fail
        go_quiet (fail)
        go_wp2_with fail
        go_roundw
        case rel => exact ⟨k + 1, n + nq, by go_num, by omega, Lib.hid (by rw [HW.out, World.drewN_drewN])⟩
        case measure => simp [intOf]; omega
      · obtain rfl : k = P := by omega
        have hxa : decide (x.a < a) = false := decide_eq_false (lo_ge a xs x (by rw [HP.out]; exact hx))
        have HA := Lib.hid (show isAt xs a b = eqb x.a x.b a b by rw [HI.out, HP.out, hx])
        clear hx
        go_wp2_with fail
        go_quiet (fail)
        go_wp2_with fail
        refine wp_region_quiet_lit (by kernel_rfl) (by kernel_rfl) ?_
        have HLd : ∀ W', (∃ n, W' = (wr.drewN nq).drewN n) → ∀ j v, (bl ⟨x.a, x.b⟩)[j]? = some v → W'.cell? ((y.add (k * 4)).add j) = some v := by
          rintro W' ⟨n, rfl⟩
          exact bl_at c0 (by rw [Addr.add_add]; exact c1)
        repeat (first | (refine quiet_load36 (.tmp 33) (y.add (k * 4)) ⟨x.a, x.b⟩ HLd ?_ ?_ ?_ ?_; rotate_left; (with_reducible rfl); rfl; rotate_left; kernel_rfl; simp only [Act.put, List.setIfInBounds_toArray, List.set_cons_zero, List.set_cons_succ]) | (refine quiet_eql36 (.tmp 34) (.tmp 35) x.a x.b a b ?_ ?_ ?_ ?_ ?_; rotate_left; (with_reducible rfl); rfl; rfl; rotate_left; kernel_rfl; simp only [Act.put, List.setIfInBounds_toArray, List.set_cons_zero, List.set_cons_succ]) | go_big_quiet_step (fail))
        refine wpQuiet_nil ?_
        intro _ hw'
        obtain ⟨nq2, hw''⟩ := hw'
        subst hw''
        go_wp2_with fail
        go_ret2
        refine ⟨?_, bdrewN (bdrewN HBW.out _) _⟩
        rw [HA.out]; rfl
    · obtain rfl : k = L := by omega
      obtain rfl : k = P := by omega
      have HA := Lib.hid (show isAt xs a b = false by rw [HI.out, HP.out, List.getElem?_eq_none (by rw [HL.out]; exact Nat.le_refl _)])
      go_wp2_with fail
      go_quiet (fail)
      go_wp2_with fail
      go_quiet (fail)
      go_wp2_with fail
      go_ret2
      refine ⟨?_, bdrewN (bdrewN HBW.out _) _⟩
      rw [HA.out]; rfl
end Go.Proofs.Ytenolbgadlehpaa
