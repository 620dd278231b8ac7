/-
  The walk of DiskKept: called at any five numbers it returns true and changes nothing that was in memory. Conditions: the numbers are of their kinds.
-/
import Derived.Test.YtlfggfoaelkapaaEq
set_option linter.unusedSimpArgs false
namespace Go.Proofs.Ytlfggfoaelkapaa
open Go.RowKit

set_option maxRecDepth 100000 in
theorem diskKept_walk (at' c again mask : Nat) (torn : Int) (w : World) (h0 : at' < 256) (hc : c < 256) (ha : again < 256) (hm : mask < 18446744073709551616) (ht : -128 ≤ torn ∧ torn < 128) :
    Calls Try.prog 4 #[.int .u8 (at' : Int), .int .u8 (c : Int), .int .u8 (again : Int), .int .u64 (mask : Int), .int .i8 torn] w fun e w' => e = .returned (.bool true) ∧ Below w.heap.size w w' := by
  obtain ⟨ht1, ht2⟩ := ht
  obtain ⟨kk, hkk⟩ : ∃ kk : Nat, (at' : Int) % 64 = kk := ⟨at' % 64, by omega⟩
  obtain ⟨ii, hii⟩ : ∃ ii : Nat, ((at' : Int) + 1 + (again : Int) % 63) % 64 = ii := ⟨(at' + 1 + again % 63) % 64, by omega⟩
  have hk64 : kk < 64 := by omega
  have hi64 : ii < 64 := by omega
  have hne : Hid (ii ≠ kk) := by show ii ≠ kk; omega
  have CO := Lib.hid fun w => of_aux 64 64 (by decide) w
  have EQ : ∀ W, (binOp .eql 38 (sv (sec c)) (sv (sec c))).run Try.prog W = .ok (.bool true) W := fun W => by rw [run_eql64, eq64_refl]
  have EG := guard64
  have CS := Lib.hid fun (c : Nat) (h : c < 256) W => sector_any c h W
  go_enter Try.func4, Try.ntmps4
  go_wp2_with fail
  refine (awake_any _).mono ?_
  rintro e w0 ⟨rfl, b0⟩
  have B0 := Lib.hid b0
  clear b0
  go_wp2_with fail
  refine (CO.out _).mono ?_
  rintro e w1 ⟨p, k, rfl, h1, b1, hp, hk⟩
  have H1 := Lib.hid h1
  have B1 := Lib.hid (B0.out.trans (b1.mono B0.out.size))
  have F1 := Lib.hid (ft_new (Nat.le_trans B0.out.size hp) (Nat.le_trans B0.out.size hk))
  clear h1 b1 hp hk CO B0
  go_wp2_with fail
  refine (CS.out c hc _).mono ?_
  rintro e w2 ⟨rfl, b2⟩
  have H2 := Lib.hid (H1.out.below b2)
  have S2 := Lib.hid (Step.of_below b2 (ft p k (.slice none 0 0)))
  clear b2 H1
  go_wp2_with fail
  have C2 := Lib.hid (write_ok p k _ _ kk (sec c) 0 w2 H2.out rfl hk64 (by decide) rfl (by decide))
  refine (C2.out).mono ?_
  rintro e w3 ⟨rfl, pv3, h3, s3⟩
  have H3 : Hid (Ds w3 p k pv3 ⟨64, fun _ => zer, [(kk, sec c)], 1, none, none, false⟩) := h3
  have S3 := Lib.hid (S2.out.trans s3)
  clear h3 s3 C2 H2 S2
  go_wp2_with fail
  have C3 := Lib.hid (flush_ok p k _ _ w3 H3.out rfl (show 1 + 1 < 1000000 by decide) rfl)
  refine (C3.out).mono ?_
  rintro e w4 ⟨rfl, h4, s4⟩
  have H4 : Hid (Ds w4 p k (.slice none 0 0) ⟨64, kpa (fun _ => 64) [(kk, sec c)] (fun _ => zer) 1, [], 2, none, none, false⟩) := h4
  have S4 := Lib.hid (S3.out.trans s4)
  clear h4 s4 C3 H3 S3
  have K4 : Hid (∀ j, j < 64 → kpa (fun _ => 64) [(kk, sec c)] (fun _ => zer) 1 kk j = sec c j) := fun j hj => by simp [kpa, ov, hj]
  generalize kpa (fun _ => 64) [(kk, sec c)] (fun _ => zer) 1 = K1 at *
  go_wp2_with fail
  refine (CS.out again ha _).mono ?_
  rintro e w5 ⟨rfl, b5⟩
  have H5 := Lib.hid (H4.out.below b5)
  have S5 := Lib.hid (S4.out.trans (Step.of_below b5 (ft p k (.slice none 0 0))))
  clear b5 H4 S4
  go_wp2_with fail
  have C5 := Lib.hid (write_ok p k _ _ ii (sec again) 0 w5 H5.out rfl hi64 (show 2 + 1 < 1000000 by decide) rfl (by decide))
  refine (C5.out).mono ?_
  rintro e w6 ⟨rfl, pv6, h6, s6⟩
  have H6 : Hid (Ds w6 p k pv6 ⟨64, K1, [(ii, sec again)], 3, none, none, false⟩) := h6
  have S6 := Lib.hid (S5.out.trans s6)
  clear h6 s6 C5 H5 S5
  go_wp2_with fail
  have C6 := Lib.hid (restart_any p k _ _ mask torn 9 w6 H6.out hm)
  refine (C6.out).mono ?_
  rintro e w7 ⟨rfl, h7, s7⟩
  have H7 : Hid (Ds w7 p k (.slice none 0 0) ⟨64, kpa (amt mask torn 9) [(ii, sec again)] K1 1, [], 3, none, none, false⟩) := h7
  have S7 := Lib.hid (S6.out.trans s7)
  have K7 : Hid (∀ j, j < 64 → kpa (amt mask torn 9) [(ii, sec again)] K1 1 kk j = sec c j) := fun j hj => by
    have := hne.out
    simp [kpa, ov, hj, K4.out j hj]
    intro e
    exact absurd e.symm this
  generalize kpa (amt mask torn 9) [(ii, sec again)] K1 1 = K2 at *
  have B7 := Lib.hid (B1.out.trans (S7.out.below B1.out.size F1.out))
  clear h7 s7 C6 H6 S6 S7 K4 B1 F1
  go_wp2_with fail
  have C7 := Lib.hid (read_ok p k _ _ kk w7 H7.out rfl hk64)
  rw [show lat ([] : List (Nat × (Nat → Nat))) kk (K2 kk) = K2 kk from rfl, sv_congr K7.out] at C7
  refine (C7.out).mono ?_
  rintro e w8 ⟨rfl, b8⟩
  have H8 := Lib.hid (H7.out.below b8)
  have B8 := Lib.hid (B7.out.trans (b8.mono B7.out.size))
  clear H7 B7 C7 b8
  have T8 := thereZ w8
  go_upto_region 9 with (first | (with_reducible show wpList _ _ _ _ _ _; refine at_alloc38 rfl rfl ?_) | (with_reducible show wpList _ _ _ _ _ (w8.alloc Z64); refine at_store38 (.tmp 14) (.tmp 58) rfl rfl w8.heap.size 0 (sec c) (by simp [Act.eval, Act.put]) (by simp [Act.eval, Act.put]) T8 ?_))
  have H9 := Lib.hid (H8.out.below (stored_below w8 (sec c)))
  have B9 := Lib.hid (B8.out.trans ((stored_below w8 (sec c)).mono B8.out.size))
  have R9 := stored_range w8 (sec c)
  rw [show (w8.alloc Z64).setCells w8.heap.size 0 (sc (sec c)) = stored w8 (sec c) from rfl]
  generalize stored w8 (sec c) = w9 at *
  generalize w8.heap.size = X at *
  clear T8 H8 B8
  have CW := Lib.hid fun d os => wait_re H9.out d os
  have CT := Lib.hid fun d os => sector_re w9 c hc d os
  refine wp_region_quiet_below (by kernel_rfl) (by kernel_rfl) ?_
  repeat (first
    | (refine quiet_load38 (.tmp 14) (by kernel_rfl) rfl X 0 (sec c) rfl (fun W hW => by obtain ⟨⟨dq, oq⟩, rfl⟩ := hW; exact range_below R9 (below_regrown w9 dq oq)) ?_; simp only [Act.put, List.setIfInBounds_toArray, List.set_cons_zero, List.set_cons_succ])
    | (refine quiet_eql38 (.tmp 63) (.tmp 65) (by kernel_rfl) rfl (sec c) (sec c) rfl rfl ?_; rw [eq64_refl]; simp only [Act.put, List.setIfInBounds_toArray, List.set_cons_zero, List.set_cons_succ])
    | (go_big_quiet_step (first | (go_at_call 18; exact CT.out _ _) | (go_at_call 20; exact CW.out _ _))))
  refine wpQuiet_nil ?_
  intro _ hw'
  obtain ⟨⟨dq, osq⟩, hw''⟩ := hw'
  subst hw''
  have B10 := Lib.hid (B9.out.trans ((below_regrown w9 dq osq).mono B9.out.size))
  generalize Sort.grow (redrawn w9 dq) osq = W at *
  go_wp2_with fail
  go_ret
  exact ⟨rfl, B10.out⟩
end Go.Proofs.Ytlfggfoaelkapaa
