/-
  The walk of DiskAgain: called at any number, row of bytes and mask it returns true and changes nothing that was in memory. Conditions: the numbers are of their kinds, and a row has at most 2^47 bytes, and not more than its room.
-/
import Derived.Test.YtlfggfoaelkapaaBeside
set_option linter.unusedSimpArgs false
namespace Go.Proofs.Ytlfggfoaelkapaa
open Go.RowKit

set_option maxRecDepth 100000 in
theorem diskAgain_walk (at' : Nat) (A : Option Addr) (zs : List Nat) (cap mask : Nat) (w : World) (h0 : at' < 256) (h : Rd w A zs) (hcap : zs.length ≤ cap) (hm : mask < 18446744073709551616) :
    Calls Try.prog 9 #[.int .u8 (at' : Int), .slice A zs.length cap, .int .u64 (mask : Int)] w fun e w' => e = .returned (.bool true) ∧ Below w.heap.size w w' := by
  obtain ⟨kk, hkk⟩ : ∃ kk : Nat, (at' : Int) % 16 = kk := ⟨at' % 16, by omega⟩
  have hk16 : kk < 16 := by omega
  obtain ⟨L, hL⟩ : ∃ L : Nat, min (zs.length : Int) 64 = L := ⟨min zs.length 64, by omega⟩
  have hL64 : L ≤ 64 := by omega
  have hLz : L ≤ zs.length := by omega
  have hLc : (L : Int) ≤ cap := by omega
  have hz := h.1
  have R := Lib.hid h
  clear h
  have CO := Lib.hid fun w => of_aux 16 16 (by decide) w
  have CS := Lib.hid fun (c : Nat) (h : c < 256) W => sector_any c h W
  go_enter Try.func9, Try.ntmps9
  go_wp2_with fail
  refine (awake_any _).mono ?_
  rintro e w0 ⟨rfl, b0⟩
  have B0 := Lib.hid b0
  clear b0
  go_wp2_with fail
  refine (CO.out _).mono ?_
  rintro e w1 ⟨p, k, rfl, h1, b1, hp, hk⟩
  have H1 := Lib.hid h1
  have B1 := Lib.hid (B0.out.trans (b1.mono B0.out.size))
  have F1 := Lib.hid (ft_new (Nat.le_trans B0.out.size hp) (Nat.le_trans B0.out.size hk))
  clear h1 b1 hp hk CO B0
  go_upto_region 7 with (first | (with_reducible show wpList _ _ _ _ _ _; refine at_alloc38 rfl rfl ?_))
  have V1 : Hid (Vs (w1.alloc Z64) p k (.slice none 0 0) w1.heap.size zer) := by
    have hr := rowZ w1
    refine ⟨by simp, fun hf => ?_, rowIs_range hr rfl (fun j _ => rfl), rowIs_there hr (by omega)⟩
    have := H1.out.lt _ hf
    omega
  have D1 := Lib.hid (H1.out.alloc Z64)
  have S1 := Lib.hid ((Step.refl w1 (ft p k (.slice none 0 0))).alloc Z64)
  have hV : w1.heap.size ≤ w1.heap.size := Nat.le_refl _
  generalize w1.alloc Z64 = w2 at *
  generalize hVe : w1.heap.size = V at *
  clear H1
  go_loopg [28] L (fun m i wr => ∃ q : Nat, q + m = L ∧ i = .int .i64 (q : Int) ∧ Hid (∃ pv, Ds wr p k pv ⟨16, fun _ => zer, pds kk zs q, q, none, none, false⟩ ∧ Step w1 wr (ft p k (.slice none 0 0)) (ft p k pv) ∧ Vs wr p k pv V (wan zs mask q)))
  case atStart => exact ⟨0, by omega, rfl, _, D1.out, S1.out, V1.out⟩
  case round =>
    clear D1 S1 V1
    obtain ⟨q, hq, rfl, HH⟩ := hrel
    obtain ⟨pv, hD, hS, hVs⟩ := HH.out
    have D := Lib.hid hD
    have S := Lib.hid hS
    have VV := Lib.hid hVs
    clear HH hD hS hVs
    match gk with
    | 0 =>
      obtain rfl : q = L := by omega
      go_wp2_with fail
      have C1 := Lib.hid (restart_any p k _ _ mask (-1) 0 wr D.out hm)
      refine (C1.out).mono ?_
      rintro e w3 ⟨rfl, h3, s3⟩
      have D3 : Hid (Ds w3 p k (.slice none 0 0) ⟨16, kpa (amt mask (-1) 0) (pds kk zs q) (fun _ => zer) (pds kk zs q).length, [], q, none, none, false⟩) := h3
      have B3 := Lib.hid (B1.out.trans ((S.out.trans s3).below B1.out.size F1.out))
      have V3 := Lib.hid (VV.out.step s3)
      have K3 : Hid (∀ j, j < 64 → kpa (amt mask (-1) 0) (pds kk zs q) (fun _ => zer) (pds kk zs q).length kk j = wan zs mask q j) := fun j hj => by
        rw [pds_length]
        exact kpa_wan hL64 hj q (Nat.le_refl _)
      generalize kpa (amt mask (-1) 0) (pds kk zs q) (fun _ => zer) (pds kk zs q).length = K at *
      clear h3 s3 C1 D S VV
      go_wp2_with fail
      have C3 := Lib.hid (read_ok p k _ _ kk w3 D3.out rfl hk16)
      rw [show lat ([] : List (Nat × (Nat → Nat))) kk (K kk) = K kk from rfl, sv_congr K3.out] at C3
      refine (C3.out).mono ?_
      rintro e w4 ⟨rfl, b4⟩
      have B4 := Lib.hid (B3.out.trans (b4.mono B3.out.size))
      have V4 := Lib.hid (V3.out.below b4)
      clear B3 C3 b4 V3 D3 K3
      generalize wan zs mask q = s at *
      have T4 := thereZ w4
      go_upto_region 19 with (first | (with_reducible show wpList _ _ _ _ _ _; refine at_alloc38 rfl rfl ?_) | (with_reducible show wpList _ _ _ _ _ (w4.alloc Z64); refine at_store38 (.tmp 14) (.tmp 68) rfl rfl w4.heap.size 0 s (by simp [Act.eval, Act.put]) (by simp [Act.eval, Act.put]) T4 ?_))
      have B5 := Lib.hid (B4.out.trans ((stored_below w4 s).mono B4.out.size))
      have R5 := stored_range w4 s
      have Y5 := range_below V4.out.rg (stored_below w4 s)
      rw [show (w4.alloc Z64).setCells w4.heap.size 0 (sc s) = stored w4 s from rfl]
      generalize stored w4 s = w5 at *
      generalize w4.heap.size = X at *
      clear T4 B4 V4
      have EQ : ∀ W, (binOp .eql 38 (sv s) (sv s)).run Try.prog W = .ok (.bool true) W := fun W => by rw [run_eql64, eq64_refl]
      have EG := guard64
      go_wp2_with (first
        | (with_reducible show wpList _ _ _ _ _ _; refine at_load38g (.tmp 14) (by kernel_rfl) rfl X 0 s (by simp [Act.eval, Act.put]) R5 ?_)
        | (with_reducible show wpList _ _ _ _ _ _; refine at_load38g (.tmp 9) (by kernel_rfl) rfl V 0 s (by simp [Act.eval, Act.put]) Y5 ?_))
      go_ret
      exact ⟨rfl, B5.out⟩
    | g + 1 =>
      have hlt : q < L := by omega
      have RR := R.out.below (B1.out.trans (S.out.below B1.out.size F1.out))
      obtain ⟨x, rfl, hc⟩ := RR.2.2 q (by omega)
      have hz256 := RR.2.1 q
      clear RR
      obtain ⟨z, hzq⟩ : ∃ z, zs.getD q 0 = z := ⟨_, rfl⟩
      rw [hzq] at hc hz256
      have HZ := Lib.hid hzq
      clear hzq
      have NE : ∀ W, (binOp .neq 38 (sv (sec z)) (sv (sec z))).run Try.prog W = .ok (.bool false) W := fun W => by rw [run_neq64, eq64_refl]; rfl
      go_wp2_with fail
      refine (CS.out z hz256 _).mono ?_
      rintro e w3 ⟨rfl, b3⟩
      have D3 := Lib.hid (D.out.below b3)
      have S3 := Lib.hid (S.out.trans (Step.of_below b3 _))
      have V3 := Lib.hid (VV.out.below b3)
      clear b3 D S VV
      go_wp2_with fail
      have C3 := Lib.hid (write_ok p k _ _ kk (sec z) 0 w3 D3.out rfl hk16 (show q + 1 < 1000000 by omega) rfl (by decide))
      refine (C3.out).mono ?_
      rintro e w4 ⟨rfl, pv4, h4, s4⟩
      have D4 : Hid (Ds w4 p k pv4 ⟨16, fun _ => zer, pds kk zs (q + 1), q + 1, none, none, false⟩) := by rw [pds_succ, HZ.out]; exact h4
      have S4 := Lib.hid (S3.out.trans s4)
      have V4 := Lib.hid (V3.out.step s4)
      clear h4 s4 C3 D3 S3 V3
      go_wp2_with fail
      have C4 := Lib.hid (read_ok p k _ _ kk w4 D4.out rfl hk16)
      rw [show lat (pds kk zs (q + 1)) kk zer = sec z by rw [pds_succ, HZ.out, lat_snoc, if_pos rfl]] at C4
      refine (C4.out).mono ?_
      rintro e w5 ⟨rfl, b5⟩
      have D5 := Lib.hid (D4.out.below b5)
      have S5 := Lib.hid (S4.out.trans (Step.of_below b5 _))
      have V5 := Lib.hid (V4.out.below b5)
      clear C4 b5 D4 S4 V4
      have T5 := thereZ w5
      go_upto_region 12 with (first | (with_reducible show wpList _ _ _ _ _ _; refine at_alloc38 rfl rfl ?_) | (with_reducible show wpList _ _ _ _ _ (w5.alloc Z64); refine at_store38 (.tmp 12) (.tmp 43) rfl rfl w5.heap.size 0 (sec z) (by simp [Act.eval, Act.put]) (by simp [Act.eval, Act.put]) T5 ?_))
      have D6 := Lib.hid (D5.out.below (stored_below w5 (sec z)))
      have S6 := Lib.hid (S5.out.trans (Step.of_below (stored_below w5 (sec z)) _))
      have V6 := Lib.hid (V5.out.below (stored_below w5 (sec z)))
      have R6 := stored_range w5 (sec z)
      rw [show (w5.alloc Z64).setCells w5.heap.size 0 (sc (sec z)) = stored w5 (sec z) from rfl]
      generalize stored w5 (sec z) = w6 at *
      generalize w5.heap.size = X at *
      clear T5 D5 S5 V5
      have CT := Lib.hid fun d os => sector_re w6 z hz256 d os
      refine wp_region_quiet_below (by kernel_rfl) (by kernel_rfl) ?_
      repeat (first
        | (refine quiet_load38 (.tmp 12) (by kernel_rfl) rfl X 0 (sec z) rfl (fun W hW => by obtain ⟨⟨dq, oq⟩, rfl⟩ := hW; exact range_below R6 (below_regrown w6 dq oq)) ?_; simp only [Act.put, List.setIfInBounds_toArray, List.set_cons_zero, List.set_cons_succ])
        | (refine quiet_neq38 (.tmp 48) (.tmp 50) (by kernel_rfl) rfl (sec z) (sec z) rfl rfl ?_; rw [eq64_refl]; simp only [Act.put, List.setIfInBounds_toArray, List.set_cons_zero, List.set_cons_succ, Bool.not_true])
        | (go_big_quiet_step ((go_at_call 18; exact CT.out _ _))))
      refine wpQuiet_nil ?_
      intro _ hw'
      obtain ⟨⟨dq, osq⟩, hw''⟩ := hw'
      subst hw''
      have D7 := Lib.hid (D6.out.regrown dq osq)
      have S7 := Lib.hid (S6.out.trans (Step.of_below (below_regrown w6 dq osq) _))
      have V7 := Lib.hid (V6.out.below (below_regrown w6 dq osq))
      clear D6 S6 V6 R6 CT
      generalize Sort.grow (redrawn w6 dq) osq = w7 at *
      have hq64 : (q : Int) < 64 := by omega
      have hbit : ((mask : Int) / 2 ^ q).tmod 2 = ((mask / 2 ^ q % 2 : Nat) : Int) := by
        rw [Int.tmod_eq_emod_of_nonneg (Int.ediv_nonneg (by omega) (Int.le_of_lt (Int.pow_pos (by decide))))]
        simp
      by_cases hb : mask / 2 ^ q % 2 = 1
      · rw [hb] at hbit
        have HW := Lib.hid (show wan zs mask (q + 1) = sec z by rw [wan, if_pos hb, HZ.out])
        clear hb
        go_wp2_with fail
        refine (CS.out z hz256 _).mono ?_
        rintro e w8 ⟨rfl, b8⟩
        have D8 := Lib.hid (D7.out.below b8)
        have S8 := Lib.hid (S7.out.trans (Step.of_below b8 _))
        have V8 := Lib.hid (V7.out.below b8)
        clear b8 D7 S7 V7
        have T8 := V8.out.th
        go_upto_region 16 with (first | (with_reducible show wpList _ _ _ _ _ _; refine at_store38 (.tmp 9) (.tmp 59) rfl rfl V 0 (sec z) (by simp [Act.eval, Act.put]) (by simp [Act.eval, Act.put]) T8 ?_))
        have D9 := Lib.hid (D8.out.other V8.out.nf 0 (sc (sec z)))
        have S9 := Lib.hid (S8.out.setNew (V := V) (by omega) (sc (sec z)) 0)
        have V9 := Lib.hid (V8.out.put (sec z))
        clear T8 D8 S8 V8
        generalize w8.setCells V 0 (sc (sec z)) = w9 at *
        go_wp2_with fail
        go_roundg g
        case measure => omega
        case rel => exact ⟨q + 1, by omega, by go_num, _, D9.out, S9.out, by rw [HW.out]; exact V9.out⟩
      · rw [show mask / 2 ^ q % 2 = 0 by omega] at hbit
        have HW := Lib.hid (show wan zs mask (q + 1) = wan zs mask q by rw [wan, if_neg hb])
        clear hb
        go_wp2_with fail
        go_roundg g
        case measure => omega
        case rel => exact ⟨q + 1, by omega, by go_num, _, D7.out, S7.out, by rw [HW.out]; exact V7.out⟩
end Go.Proofs.Ytlfggfoaelkapaa
