/-
  The contracts of sweep.anyOverlap and of sweep.rightSweep. Conditions: the row lies in memory, and addresses are numbers of 32 bits.
-/
import Derived.Test.YtenolbgadlehpaaPlace
set_option linter.unusedSimpArgs false
set_option linter.unusedVariables false
namespace Go.Proofs.Ytenolbgadlehpaa
open Go.RowKit

/-- All addresses of a row are numbers of 32 bits. -/
def Au (xs : List Sw) : Prop := ∀ x ∈ xs, 0 ≤ x.a ∧ x.a < 4294967296
theorem Au.get {xs : List Sw} (h : Au xs) {k : Nat} {x : Sw} (hx : xs[k]? = some x) : 0 ≤ x.a ∧ x.a < 4294967296 := h x (List.mem_of_getElem? hx)
/-- Whether a prefix is in the way of one of a row. -/
def anyB (xs : List Sw) (a b : Int) : Bool := xs.any fun x => overB x.a x.b a b
theorem any_take {xs : List Sw} {a b : Int} {k : Nat} {x : Sw} (hx : xs[k]? = some x) : anyB (xs.take (k + 1)) a b = (anyB (xs.take k) a b || overB x.a x.b a b) := by
  unfold anyB
  rw [List.take_add_one, hx]
  simp
theorem any_yes {xs : List Sw} {a b : Int} {k : Nat} {x : Sw} (hx : xs[k]? = some x) (h : overB x.a x.b a b = true) : anyB xs a b = true := List.any_eq_true.2 ⟨x, List.mem_of_getElem? hx, h⟩

set_option maxRecDepth 100000 in
set_option maxHeartbeats 2000000 in
theorem anyOverlap_any (a b : Int) (A : Option Addr) (xs : List Sw) (cap : Nat) (w : World) (h : Rw eW w A xs) (hu : Au xs) (ha0 : 0 ≤ a) (ha1 : a < 4294967296) :
    Calls Try.prog 31 #[.slice A xs.length cap, .agg #[.int .u32 a, .int .i64 b]] w fun e w' => e = .returned (.bool (anyB xs a b)) ∧ Below w.heap.size w w' := by
  have hln := h.1
  have R := Lib.hid (h.below ((Below.refl _ w).alloc (Nat.le_refl _) (Bkx a b)))
  have HB := Lib.hid (show Below w.heap.size w (w.alloc (Bkx a b)) from (Below.refl _ w).alloc (Nat.le_refl _) _)
  have HU := Lib.hid hu
  clear h hu
  obtain ⟨L, hL⟩ : ∃ L, xs.length = L := ⟨_, rfl⟩
  have HL := Lib.hid hL
  rw [hL] at hln ⊢
  clear hL
  have b0 : (w.alloc (Bkx a b)).cell? ⟨w.heap.size, 0, none⟩ = some (.int .u32 a) := by simp [Bkx]
  have b1 : (w.alloc (Bkx a b)).cell? ⟨w.heap.size, 1, none⟩ = some (.int .i64 b) := by simp [Bkx]
  have hs : w.heap.size < (w.alloc (Bkx a b)).heap.size := by simp
  unfold Bkx at *
  go_enter Try.func31, Try.ntmps31
  go_wp2_with fail
  generalize w.alloc (.cells #[.int .u32 a, .int .i64 b] 36) = W at *
  go_loopw [9] (fun i wr => ∃ k : Nat, i = .int .i64 k ∧ k ≤ L ∧ Hid (Below W.heap.size W wr) ∧ Hid (anyB (xs.take k) a b = false)) (fun i _ => L - (intOf i).toNat)
  case atStart => exact ⟨0, rfl, by omega, Lib.hid (Below.refl _ _), Lib.hid (by simp [anyB])⟩
  case round =>
    obtain ⟨k, rfl, hk, HW, HF⟩ := hrel
    have d0 : wr.cell? ⟨w.heap.size, 0, none⟩ = some (.int .u32 a) := by rw [HW.out.cell (p := ⟨w.heap.size, 0, none⟩) hs]; exact b0
    have d1 : wr.cell? ⟨w.heap.size, 1, none⟩ = some (.int .i64 b) := by rw [HW.out.cell (p := ⟨w.heap.size, 1, none⟩) hs]; exact b1
    have hsw : w.heap.size < wr.heap.size := Nat.lt_of_lt_of_le hs HW.out.size
    by_cases hkL : k < L
    · obtain ⟨x, hx⟩ : ∃ x, xs[k]? = some x := ⟨_, List.getElem?_eq_getElem (by rw [HL.out]; exact hkL)⟩
      obtain ⟨y, rfl⟩ := rw_some R.out (by rw [HL.out]; omega)
      have hat := (R.out.below HW.out).at hx
      obtain ⟨u0, u1⟩ := HU.out.get hx
      have HX := Lib.hid hx
      clear hx
      cases hov : overB x.a x.b a b
      · have HO := Lib.hid fun W' => overlap_eq x.a x.b a b false W' u0 u1 ha0 ha1 hov
        have HV := Lib.hid hov
        clear hov
        go_wp2_with (refine at_load39 (.tmp 11) rfl rfl (y.add (k * 4)) x rfl hat ?_)
        refine (HO.out _).mono ?_
        rintro e w1 ⟨rfl, hb⟩
        have B1 := Lib.hid (HW.out.trans ((hx_below _ hb).mono HW.out.size))
        clear hb
        go_wp2_with fail
        go_roundw
        case rel => exact ⟨k + 1, by go_num, by omega, B1, Lib.hid (by rw [any_take HX.out, HF.out, HV.out]; rfl)⟩
        case measure => simp [intOf]; omega
      · have HO := Lib.hid fun W' => overlap_eq x.a x.b a b true W' u0 u1 ha0 ha1 hov
        have HV := Lib.hid hov
        clear hov
        go_wp2_with (refine at_load39 (.tmp 11) rfl rfl (y.add (k * 4)) x rfl hat ?_)
        refine (HO.out _).mono ?_
        rintro e w1 ⟨rfl, hb⟩
        have B1 := Lib.hid (HW.out.trans ((hx_below _ hb).mono HW.out.size))
        clear hb
        go_wp2_with fail
        go_ret
        exact ⟨by rw [any_yes HX.out HV.out]; rfl, HB.out.trans (B1.out.mono HB.out.size)⟩
    · obtain rfl : k = L := by omega
      go_wp2_with fail
      go_ret
      exact ⟨by rw [show anyB xs a b = false by rw [← HF.out, List.take_of_length_le (by rw [HL.out]; exact Nat.le_refl _)]]; rfl, HB.out.trans (HW.out.mono HB.out.size)⟩

/-- Whether a sweep is right, alone. -/
def rsB (x : Sw) : Bool := okB x.a x.b && decide (p2 x.b ≤ 256) && decide (x.d = cl x.d) && decide (0 ≤ x.n) && decide (x.n < p2 x.b)

theorem sw_box (w : World) (x : Sw) : (w.alloc (Swx x)).cell? ⟨w.heap.size, 0, none⟩ = some (.int .u32 x.a) ∧ (w.alloc (Swx x)).cell? ⟨w.heap.size, 1, none⟩ = some (.int .i64 x.b) ∧ (w.alloc (Swx x)).cell? ⟨w.heap.size, 2, none⟩ = some (.int .i64 x.d) ∧ (w.alloc (Swx x)).cell? ⟨w.heap.size, 3, none⟩ = some (.int .i64 x.n) := by
  simp [Swx]

set_option maxRecDepth 100000 in
set_option maxHeartbeats 4000000 in
theorem rightSweep_any (x : Sw) (w : World) (ha0 : 0 ≤ x.a) (ha1 : x.a < 4294967296) :
    Calls Try.prog 33 #[.agg #[.int .u32 x.a, .int .i64 x.b, .int .i64 x.d, .int .i64 x.n]] w fun e w' => e = .returned (.bool (rsB x)) ∧ Below w.heap.size w w' := by
  obtain ⟨a, b, d, n⟩ := x
  dsimp only at ha0 ha1 ⊢
  obtain ⟨k0, k1, k2, k3⟩ := sw_box w ⟨a, b, d, n⟩
  have HB := Lib.hid (show Below w.heap.size w (w.alloc (Swx ⟨a, b, d, n⟩)) from (Below.refl _ w).alloc (Nat.le_refl _) _)
  have hs : w.heap.size < (w.alloc (Swx ⟨a, b, d, n⟩)).heap.size := by simp
  have HS := Lib.hid fun W' => size_any a b W' ha0 ha1
  unfold Swx at *
  go_enter Try.func33, Try.ntmps33
  go_wp2_with fail
  generalize w.alloc (.cells #[.int .u32 a, .int .i64 b, .int .i64 d, .int .i64 n] 39) = W at *
  refine (HS.out _).mono ?_
  rintro e W1 ⟨rfl, hb⟩
  have B1 := Lib.hid (HB.out.trans (hb.mono HB.out.size))
  have q0 : W1.cell? ⟨w.heap.size, 0, none⟩ = some (.int .u32 a) := by rw [hb.cell (p := ⟨w.heap.size, 0, none⟩) hs]; exact k0
  have q1 : W1.cell? ⟨w.heap.size, 1, none⟩ = some (.int .i64 b) := by rw [hb.cell (p := ⟨w.heap.size, 1, none⟩) hs]; exact k1
  have q2 : W1.cell? ⟨w.heap.size, 2, none⟩ = some (.int .i64 d) := by rw [hb.cell (p := ⟨w.heap.size, 2, none⟩) hs]; exact k2
  have q3 : W1.cell? ⟨w.heap.size, 3, none⟩ = some (.int .i64 n) := by rw [hb.cell (p := ⟨w.heap.size, 3, none⟩) hs]; exact k3
  have r0 := cell_regrown q0
  have r1 := cell_regrown q1
  have r2 := cell_regrown q2
  have r3 := cell_regrown q3
  clear hb k0 k1 k2 k3 q0 q1 q2 q3
  have HC := Lib.hid fun d' os => Calls.regrown_of (d := d') (os := os) ((clamp_any d (Sort.grow (redrawn W1 d') os)).mono fun _ _ ⟨he, hw⟩ => ⟨he, by rw [hw]; exact Below.refl _ _⟩)
  cases hok : okB a b
  · obtain ⟨S, hS⟩ : ∃ S, sizeOf a b = S := ⟨_, rfl⟩
    rw [hS]
    clear hS
    have HF := Lib.hid (show rsB ⟨a, b, d, n⟩ = false by simp [rsB, hok]; try omega)
    have HR := Lib.hid fun d' os => Calls.regrown_of (d := d') (os := os) (right_no a b (Sort.grow (redrawn W1 d') os) ha0 ha1 hok)
    clear hok
    go_wp2_with fail
    refine wp_region_quiet_below (by kernel_rfl) (by kernel_rfl) ?_
    repeat (go_big_quiet_step (first | (go_at_call 21; exact HR.out _ _) | (go_at_call 32; exact HC.out _ _)))
    refine wpQuiet_nil ?_
    intro _ hw'
    obtain ⟨⟨dq, osq⟩, hw''⟩ := hw'
    subst hw''
    go_wp2
    go_ret
    exact ⟨by rw [HF.out]; rfl, B1.out.trans ((below_regrown _ dq osq).mono B1.out.size)⟩
  · have hsz : sizeOf a b = p2 b := by simp [sizeOf, hok]
    rw [hsz]
    clear hsz
    obtain ⟨P, hP⟩ : ∃ P, p2 b = P := ⟨_, rfl⟩
    have HP := Lib.hid hP
    rw [hP]
    obtain ⟨C, hCC⟩ : ∃ C, cl d = C := ⟨_, rfl⟩
    have HCL := Lib.hid hCC
    rw [hCC] at HC
    by_cases h1 : P ≤ 256
    · by_cases h2 : d = C
      · have e2 : (d == C) = true := by simpa using h2
        have H2 := Lib.hid h2
        clear h2
        by_cases h3 : 0 ≤ n
        · by_cases h4 : n < P
          · have HF0 : rsB ⟨a, b, d, n⟩ = true := by simp only [rsB, hok, hP, decide_eq_true h1, decide_eq_true h3, decide_eq_true h4, decide_eq_true (show d = cl d by rw [hCC]; exact H2.out), Bool.and_self]
            have HF := Lib.hid HF0
            clear HF0 hP hCC
            have HR := Lib.hid fun d' os => Calls.regrown_of (d := d') (os := os) (right_yes a b (Sort.grow (redrawn W1 d') os) ha0 ha1 hok)
            clear hok
            go_wp2_with fail
            refine wp_region_quiet_below (by kernel_rfl) (by kernel_rfl) ?_
            repeat (go_big_quiet_step (first | (go_at_call 21; exact HR.out _ _) | (go_at_call 32; exact HC.out _ _)))
            refine wpQuiet_nil ?_
            intro _ hw'
            obtain ⟨⟨dq, osq⟩, hw''⟩ := hw'
            subst hw''
            go_wp2
            go_ret
            exact ⟨by rw [HF.out]; rfl, B1.out.trans ((below_regrown _ dq osq).mono B1.out.size)⟩
          · have HF := Lib.hid (show rsB ⟨a, b, d, n⟩ = false by simp [rsB, hok, hP, hCC, h4])
            have h4' : decide (n < P) = false := decide_eq_false h4
            clear hP hCC h4
            have HR := Lib.hid fun d' os => Calls.regrown_of (d := d') (os := os) (right_yes a b (Sort.grow (redrawn W1 d') os) ha0 ha1 hok)
            clear hok
            go_wp2_with fail
            refine wp_region_quiet_below (by kernel_rfl) (by kernel_rfl) ?_
            repeat (go_big_quiet_step (first | (go_at_call 21; exact HR.out _ _) | (go_at_call 32; exact HC.out _ _)))
            refine wpQuiet_nil ?_
            intro _ hw'
            obtain ⟨⟨dq, osq⟩, hw''⟩ := hw'
            subst hw''
            go_wp2
            go_ret
            exact ⟨by rw [HF.out]; rfl, B1.out.trans ((below_regrown _ dq osq).mono B1.out.size)⟩
        · have HF := Lib.hid (show rsB ⟨a, b, d, n⟩ = false by simp [rsB, hok, hP, hCC, h3])
          have h3' : decide (0 ≤ n) = false := decide_eq_false h3
          clear hP hCC h3
          have HR := Lib.hid fun d' os => Calls.regrown_of (d := d') (os := os) (right_yes a b (Sort.grow (redrawn W1 d') os) ha0 ha1 hok)
          clear hok
          go_wp2_with fail
          refine wp_region_quiet_below (by kernel_rfl) (by kernel_rfl) ?_
          repeat (go_big_quiet_step (first | (go_at_call 21; exact HR.out _ _) | (go_at_call 32; exact HC.out _ _)))
          refine wpQuiet_nil ?_
          intro _ hw'
          obtain ⟨⟨dq, osq⟩, hw''⟩ := hw'
          subst hw''
          go_wp2
          go_ret
          exact ⟨by rw [HF.out]; rfl, B1.out.trans ((below_regrown _ dq osq).mono B1.out.size)⟩
      · have e2 : (d == C) = false := by simpa using h2
        have HF := Lib.hid (show rsB ⟨a, b, d, n⟩ = false by simp [rsB, hok, hP, hCC, h2])
        clear hP hCC h2
        have HR := Lib.hid fun d' os => Calls.regrown_of (d := d') (os := os) (right_yes a b (Sort.grow (redrawn W1 d') os) ha0 ha1 hok)
        clear hok
        go_wp2_with fail
        refine wp_region_quiet_below (by kernel_rfl) (by kernel_rfl) ?_
        repeat (go_big_quiet_step (first | (go_at_call 21; exact HR.out _ _) | (go_at_call 32; exact HC.out _ _)))
        refine wpQuiet_nil ?_
        intro _ hw'
        obtain ⟨⟨dq, osq⟩, hw''⟩ := hw'
        subst hw''
        go_wp2
        go_ret
        exact ⟨by rw [HF.out]; rfl, B1.out.trans ((below_regrown _ dq osq).mono B1.out.size)⟩
    · have HF := Lib.hid (show rsB ⟨a, b, d, n⟩ = false by simp [rsB, hok, hP, hCC, h1])
      have h1' : decide (P ≤ 256) = false := decide_eq_false h1
      clear hP hCC h1
      have HR := Lib.hid fun d' os => Calls.regrown_of (d := d') (os := os) (right_yes a b (Sort.grow (redrawn W1 d') os) ha0 ha1 hok)
      clear hok
      go_wp2_with fail
      refine wp_region_quiet_below (by kernel_rfl) (by kernel_rfl) ?_
      repeat (go_big_quiet_step (first | (go_at_call 21; exact HR.out _ _) | (go_at_call 32; exact HC.out _ _)))
      refine wpQuiet_nil ?_
      intro _ hw'
      obtain ⟨⟨dq, osq⟩, hw''⟩ := hw'
      subst hw''
      go_wp2
      go_ret
      exact ⟨by rw [HF.out]; rfl, B1.out.trans ((below_regrown _ dq osq).mono B1.out.size)⟩
end Go.Proofs.Ytenolbgadlehpaa
