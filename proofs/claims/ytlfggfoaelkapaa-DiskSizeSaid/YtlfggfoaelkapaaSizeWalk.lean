/-
  The walk of DiskSize: called at any two numbers it returns true and changes nothing that was in memory.
-/
import Derived.Test.YtlfggfoaelkapaaEq
set_option linter.unusedSimpArgs false
namespace Go.Proofs.Ytlfggfoaelkapaa
open Go.RowKit

/-- A sector of a disk that nothing was written to. -/
theorem read_fresh (p k : Nat) (pv : Value) (m : Nat) (n : Int) (w : World) (h : Ds w p k pv ⟨m, fun _ => zer, [], 0, none, none, false⟩) :
    Calls Try.prog 19 #[.pointer (some ⟨p, 0, none⟩), .int .i64 n] w fun e w' => e = .returned (.tuple #[sv zer, .int .i64 (if 0 ≤ n ∧ n < m then 0 else 3)]) ∧ Below w.heap.size w w' := by
  by_cases hn : 0 ≤ n ∧ n < m
  · obtain ⟨n, rfl⟩ : ∃ q : Nat, n = q := ⟨n.toNat, by omega⟩
    rw [if_pos hn]
    exact read_ok p k pv _ n w h rfl (show n < m by omega)
  · have e : rfs ⟨m, fun _ => zer, [], 0, none, none, false⟩ n = 3 := by simp [rfs, hn]
    rw [if_neg hn]
    have := read_no p k pv _ n w h (by rw [e]; decide)
    rw [e] at this
    exact this

set_option maxRecDepth 100000 in
theorem diskSize_walk (size at' : Int) (w : World) : Calls Try.prog 8 #[.int .i64 size, .int .i64 at'] w fun e w' => e = .returned (.bool true) ∧ Below w.heap.size w w' := by
  obtain ⟨m, hm⟩ : ∃ m : Nat, max 0 (min size 512) = (m : Int) := ⟨(max 0 (min size 512)).toNat, by omega⟩
  have CO := Lib.hid fun w => of_aux size m (by omega) w
  have NE : ∀ W, (binOp .neq 38 (sv zer) (sv zer)).run Try.prog W = .ok (.bool false) W := fun W => by rw [run_neq64, eq64_refl]; rfl
  have EG := guard64
  go_enter Try.func8, Try.ntmps8
  go_wp2_with fail
  refine (awake_any _).mono ?_
  rintro e w0 ⟨rfl, b0⟩
  have B0 := Lib.hid b0
  clear b0
  go_wp2_with fail
  refine (CO.out _).mono ?_
  rintro e w1 ⟨p, k, rfl, h1, b1, hp, hk⟩
  have H1 := Lib.hid h1
  have B1 := Lib.hid (B0.out.trans (b1.mono B0.out.size))
  clear h1 b1 hp hk CO B0
  go_wp2_with fail
  obtain ⟨r, hr⟩ : ∃ r : Int, (if 0 ≤ at' ∧ at' < (m : Int) then (0 : Int) else 3) = r := ⟨_, rfl⟩
  have C4 := Lib.hid (hr ▸ read_fresh p k _ m at' w1 H1.out)
  have HR := Lib.hid hr
  clear hr
  refine (C4.out).mono ?_
  rintro e w5 ⟨rfl, b5⟩
  have H5 := Lib.hid (H1.out.below b5)
  have B5 := Lib.hid (B1.out.trans (b5.mono B1.out.size))
  clear H1 B1 C4 b5
  have T5 := thereZ w5
  go_upto_region 6 with (first | (with_reducible show wpList _ _ _ _ _ _; refine at_alloc38 rfl rfl ?_) | (with_reducible show wpList _ _ _ _ _ (w5.alloc Z64); refine at_store38 (.tmp 7) (.tmp 20) rfl rfl w5.heap.size 0 zer (by simp [Act.eval, Act.put]) (by simp [Act.eval, Act.put]) T5 ?_))
  have H6 := Lib.hid (H5.out.below (stored_below w5 zer))
  have B6 := Lib.hid (B5.out.trans ((stored_below w5 zer).mono B5.out.size))
  have R6 := stored_range w5 zer
  rw [show (w5.alloc Z64).setCells w5.heap.size 0 (sc zer) = stored w5 zer from rfl]
  generalize stored w5 zer = w6 at *
  generalize w5.heap.size = X at *
  clear T5 H5 B5
  go_wp2_with fail
  refine (size_any p k _ _ _ H6.out).mono ?_
  rintro e w9 ⟨rfl, rfl⟩
  have RN := Lib.hid (show rfs ⟨m, fun _ => zer, [], 0, none, none, false⟩ (m : Int) = 3 by simp [rfs])
  have RM := Lib.hid (show rfs ⟨m, fun _ => zer, [], 0, none, none, false⟩ (-1 : Int) = 3 by simp [rfs])
  have hw1 := Lib.hid (RN.out ▸ write_no p k _ _ (m : Int) zer w6 H6.out (by rw [RN.out]; decide))
  by_cases h0 : 0 ≤ at'
  · by_cases h1 : at' < m
    · obtain rfl : r = 0 := by rw [← HR.out, if_pos ⟨h0, h1⟩]
      go_wp2_with (first
        | (with_reducible show wpList _ _ _ _ _ _; refine at_load38g (.tmp 7) (by kernel_rfl) rfl X 0 zer (by simp [Act.eval, Act.put]) R6 ?_)
        | (with_reducible show wpList _ _ _ _ _ _; refine at_build38g (by kernel_rfl) rfl ?_))
      refine (hw1.out).mono ?_
      rintro e w7 ⟨rfl, b7⟩
      have H7 := Lib.hid (H6.out.below b7)
      have B7 := Lib.hid (B6.out.trans (b7.mono B6.out.size))
      have R7 := range_below R6 b7
      clear b7 H6 B6 R6
      go_wp2_with (first
        | (with_reducible show wpList _ _ _ _ _ _; refine at_load38g (.tmp 7) (by kernel_rfl) rfl X 0 zer (by simp [Act.eval, Act.put]) R7 ?_))
      have hw2 := Lib.hid (RM.out ▸ write_no p k _ _ (-1) zer w7 H7.out (by rw [RM.out]; decide))
      refine (hw2.out).mono ?_
      rintro e w8 ⟨rfl, b8⟩
      have H8 := Lib.hid (H7.out.below b8)
      have B8 := Lib.hid (B7.out.trans (b8.mono B7.out.size))
      clear b8 H7 B7 R7
      go_wp2_with fail
      refine (wait_any p k _ _ _ H8.out).mono ?_
      rintro e w9 ⟨rfl, rfl⟩
      go_wp2_with fail
      refine (calls_any p k _ _ _ H8.out).mono ?_
      rintro e w9 ⟨rfl, rfl⟩
      go_wp2_with fail
      go_ret
      exact ⟨rfl, B8.out⟩
    · obtain rfl : r = 3 := by rw [← HR.out, if_neg (by omega)]
      have h2 : decide (at' < (m : Int)) = false := decide_eq_false h1
      go_wp2_with (first
        | (with_reducible show wpList _ _ _ _ _ _; refine at_load38g (.tmp 7) (by kernel_rfl) rfl X 0 zer (by simp [Act.eval, Act.put]) R6 ?_)
        | (with_reducible show wpList _ _ _ _ _ _; refine at_build38g (by kernel_rfl) rfl ?_))
      refine (hw1.out).mono ?_
      rintro e w7 ⟨rfl, b7⟩
      have H7 := Lib.hid (H6.out.below b7)
      have B7 := Lib.hid (B6.out.trans (b7.mono B6.out.size))
      have R7 := range_below R6 b7
      clear b7 H6 B6 R6
      go_wp2_with (first
        | (with_reducible show wpList _ _ _ _ _ _; refine at_load38g (.tmp 7) (by kernel_rfl) rfl X 0 zer (by simp [Act.eval, Act.put]) R7 ?_))
      have hw2 := Lib.hid (RM.out ▸ write_no p k _ _ (-1) zer w7 H7.out (by rw [RM.out]; decide))
      refine (hw2.out).mono ?_
      rintro e w8 ⟨rfl, b8⟩
      have H8 := Lib.hid (H7.out.below b8)
      have B8 := Lib.hid (B7.out.trans (b8.mono B7.out.size))
      clear b8 H7 B7 R7
      go_wp2_with fail
      refine (wait_any p k _ _ _ H8.out).mono ?_
      rintro e w9 ⟨rfl, rfl⟩
      go_wp2_with fail
      refine (calls_any p k _ _ _ H8.out).mono ?_
      rintro e w9 ⟨rfl, rfl⟩
      go_wp2_with fail
      go_ret
      exact ⟨rfl, B8.out⟩
  · obtain rfl : r = 3 := by rw [← HR.out, if_neg (by omega)]
    go_wp2_with (first
      | (with_reducible show wpList _ _ _ _ _ _; refine at_load38g (.tmp 7) (by kernel_rfl) rfl X 0 zer (by simp [Act.eval, Act.put]) R6 ?_)
      | (with_reducible show wpList _ _ _ _ _ _; refine at_build38g (by kernel_rfl) rfl ?_))
    refine (hw1.out).mono ?_
    rintro e w7 ⟨rfl, b7⟩
    have H7 := Lib.hid (H6.out.below b7)
    have B7 := Lib.hid (B6.out.trans (b7.mono B6.out.size))
    have R7 := range_below R6 b7
    clear b7 H6 B6 R6
    go_wp2_with (first
      | (with_reducible show wpList _ _ _ _ _ _; refine at_load38g (.tmp 7) (by kernel_rfl) rfl X 0 zer (by simp [Act.eval, Act.put]) R7 ?_))
    have hw2 := Lib.hid (RM.out ▸ write_no p k _ _ (-1) zer w7 H7.out (by rw [RM.out]; decide))
    refine (hw2.out).mono ?_
    rintro e w8 ⟨rfl, b8⟩
    have H8 := Lib.hid (H7.out.below b8)
    have B8 := Lib.hid (B7.out.trans (b8.mono B7.out.size))
    clear b8 H7 B7 R7
    go_wp2_with fail
    refine (wait_any p k _ _ _ H8.out).mono ?_
    rintro e w9 ⟨rfl, rfl⟩
    go_wp2_with fail
    refine (calls_any p k _ _ _ H8.out).mono ?_
    rintro e w9 ⟨rfl, rfl⟩
    go_wp2_with fail
    go_ret
    exact ⟨rfl, B8.out⟩
end Go.Proofs.Ytlfggfoaelkapaa
