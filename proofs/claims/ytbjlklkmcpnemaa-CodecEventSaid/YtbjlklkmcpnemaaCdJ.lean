/-
  Rows that are none are right; ReadState of the bytes of the document's example; the statements' own examples. Conditions: bytes lie in memory.
-/
import Derived.Test.YtbjlklkmcpnemaaCdL
import Derived.Test.YtbjlklkmcpnemaaCdE
import Derived.BigGuard
import Derived.Lib.QuietBelow
import Derived.Lib.MinMax
set_option linter.unusedSimpArgs false
set_option linter.unusedVariables false
namespace Go.Proofs.Ytbjlklkmcpnemaa
open Go.RowKit

set_option maxRecDepth 100000 in
theorem right0_held (w : World) : Calls Try.prog 32 #[.slice none 0 0] w fun e w' => e = .returned (.bool true) ∧ Below w.heap.size w w' := by
  go_enter Try.func32, Try.ntmps32
  go_wp2_with fail
  go_loopw [10] (fun i wr => i = .int .i64 0 ∧ wr = w) (fun _ _ => 0)
  case atStart => exact ⟨rfl, rfl⟩
  case round =>
    obtain ⟨rfl, rfl⟩ := hrel
    go_wp2_with fail
    go_ret
    exact ⟨rfl, Below.refl _ _⟩
set_option maxRecDepth 100000 in
theorem right0_sweep (w : World) : Calls Try.prog 33 #[.slice none 0 0] w fun e w' => e = .returned (.bool true) ∧ Below w.heap.size w w' := by
  go_enter Try.func33, Try.ntmps33
  go_wp2_with fail
  go_loopw [11] (fun i wr => i = .int .i64 0 ∧ wr = w) (fun _ _ => 0)
  case atStart => exact ⟨rfl, rfl⟩
  case round =>
    obtain ⟨rfl, rfl⟩ := hrel
    go_wp2_with fail
    go_ret
    exact ⟨rfl, Below.refl _ _⟩
set_option maxRecDepth 100000 in
theorem right0_seen (w : World) : Calls Try.prog 34 #[.slice none 0 0] w fun e w' => e = .returned (.bool true) ∧ Below w.heap.size w w' := by
  go_enter Try.func34, Try.ntmps34
  go_wp2_with fail
  go_loopw [10] (fun i wr => i = .int .i64 0 ∧ wr = w) (fun _ _ => 0)
  case atStart => exact ⟨rfl, rfl⟩
  case round =>
    obtain ⟨rfl, rfl⟩ := hrel
    go_wp2_with fail
    go_ret
    exact ⟨rfl, Below.refl _ _⟩
set_option maxRecDepth 100000 in
theorem right0_probe (w : World) : Calls Try.prog 35 #[.slice none 0 0] w fun e w' => e = .returned (.bool true) ∧ Below w.heap.size w w' := by
  go_enter Try.func35, Try.ntmps35
  go_wp2_with fail
  go_loopw [10] (fun i wr => i = .int .i64 0 ∧ wr = w) (fun _ _ => 0)
  case atStart => exact ⟨rfl, rfl⟩
  case round =>
    obtain ⟨rfl, rfl⟩ := hrel
    go_wp2_with fail
    go_ret
    exact ⟨rfl, Below.refl _ _⟩
set_option maxRecDepth 100000 in
theorem right0_cases (w : World) : Calls Try.prog 36 #[.slice none 0 0] w fun e w' => e = .returned (.bool true) ∧ Below w.heap.size w w' := by
  go_enter Try.func36, Try.ntmps36
  go_wp2_with fail
  go_loopw [10] (fun i wr => i = .int .i64 0 ∧ wr = w) (fun _ _ => 0)
  case atStart => exact ⟨rfl, rfl⟩
  case round =>
    obtain ⟨rfl, rfl⟩ := hrel
    go_wp2_with fail
    go_ret
    exact ⟨rfl, Below.refl _ _⟩
theorem clamp7 (w : World) : Calls Try.prog 31 #[.int .i64 7] w fun e w' => e = .returned (.int .i64 7) ∧ Below w.heap.size w w' := by
  go_enter Try.func31, Try.ntmps31
  go_wp2_with fail
  go_ret
  exact ⟨rfl, Below.refl _ _⟩
set_option maxRecDepth 100000 in
set_option maxHeartbeats 4000000 in
theorem right7 (w : World) : Calls Try.prog 13 #[.agg #[.int .i64 7, .int .i64 0, .slice none 0 0, .slice none 0 0, .slice none 0 0, .slice none 0 0, .slice none 0 0]] w fun e w' => e = .returned (.bool true) ∧ Below w.heap.size w w' := by
  have B0 := Lib.hid (show Below w.heap.size w (w.alloc (.cells #[.int .i64 7, .int .i64 0, .slice none 0 0, .slice none 0 0, .slice none 0 0, .slice none 0 0, .slice none 0 0] 55)) from (Below.refl _ _).alloc (Nat.le_refl _) _)
  have KC := cx_box w [.int .i64 7, .int .i64 0, .slice none 0 0, .slice none 0 0, .slice none 0 0, .slice none 0 0, .slice none 0 0] _ 55 rfl
  have k0 := KC.key 0 _ rfl
  have k1 := KC.key 1 _ rfl
  have k2 := KC.key 2 _ rfl
  have k3 := KC.key 3 _ rfl
  have k4 := KC.key 4 _ rfl
  have k5 := KC.key 5 _ rfl
  have k6 := KC.key 6 _ rfl
  clear KC
  go_enter Try.func13, Try.ntmps13
  go_upto_region 1 with fail
  generalize w.alloc (.cells #[.int .i64 7, .int .i64 0, .slice none 0 0, .slice none 0 0, .slice none 0 0, .slice none 0 0, .slice none 0 0] 55) = W at *
  have r0 := cell_regrown k0
  have r1 := cell_regrown k1
  have r2 := cell_regrown k2
  have r3 := cell_regrown k3
  have r4 := cell_regrown k4
  have r5 := cell_regrown k5
  have r6 := cell_regrown k6
  have C := Lib.hid fun (d : Nat) (os : Array Obj) => Calls.regrown_of (d := d) (os := os) (clamp7 (Sort.grow (redrawn W d) os))
  have H1 := Lib.hid fun (d : Nat) (os : Array Obj) => Calls.regrown_of (d := d) (os := os) (right0_held (Sort.grow (redrawn W d) os))
  have H2 := Lib.hid fun (d : Nat) (os : Array Obj) => Calls.regrown_of (d := d) (os := os) (right0_sweep (Sort.grow (redrawn W d) os))
  have H3 := Lib.hid fun (d : Nat) (os : Array Obj) => Calls.regrown_of (d := d) (os := os) (right0_seen (Sort.grow (redrawn W d) os))
  have H4 := Lib.hid fun (d : Nat) (os : Array Obj) => Calls.regrown_of (d := d) (os := os) (right0_probe (Sort.grow (redrawn W d) os))
  have H5 := Lib.hid fun (d : Nat) (os : Array Obj) => Calls.regrown_of (d := d) (os := os) (right0_cases (Sort.grow (redrawn W d) os))
  refine wp_region_quiet_below (by kernel_rfl) (by kernel_rfl) ?_
  (try simp only [Act.put])
  repeat (go_big_quiet_step (first | (go_at_call 31; exact C.out _ _) | (go_at_call 32; exact H1.out _ _) | (go_at_call 33; exact H2.out _ _) | (go_at_call 34; exact H3.out _ _) | (go_at_call 35; exact H4.out _ _) | (go_at_call 36; exact H5.out _ _)))
  refine wpQuiet_nil ?_
  intro _ hw'
  obtain ⟨⟨dq, osq⟩, hw''⟩ := hw'
  subst hw''
  go_wp2_with fail
  go_ret
  exact ⟨rfl, B0.out.trans ((below_regrown _ dq osq).mono B0.out.size)⟩
/-- The bytes of the state at tick 7, and what is left of them. -/
def x0 : Rs := ⟨stB0 7, false⟩
def x1 : Rs := tkS 8 x0
def x2 : Rs := tkS 2 x1
def x3 : Rs := tkS 2 x2
def x4 : Rs := tkS 2 x3
def x5 : Rs := tkS 2 x4
def x6 : Rs := tkS 2 x5
theorem e0 : vl (tkP 8 x0) = 7 := by kernel_rfl
theorem e1 : vl (tkP 2 x1) = 0 := by kernel_rfl
theorem e2 : vl (tkP 2 x2) = 0 := by kernel_rfl
theorem e3 : vl (tkP 2 x3) = 0 := by kernel_rfl
theorem e4 : vl (tkP 2 x4) = 0 := by kernel_rfl
theorem e5 : vl (tkP 2 x5) = 0 := by kernel_rfl
theorem e6 : vl (tkP 2 x6) = 0 := by kernel_rfl
theorem e7 : (tkS 2 x6).zs.length = 0 ∧ (tkS 2 x6).sh = false := by constructor <;> kernel_rfl
theorem rdone0 (x : Rs) (b : Nat) (w : World) (H : Rd w b x) (h0 : x.zs.length = 0) (h1 : x.sh = false) :
    Calls Try.prog 24 #[.pointer (some ⟨b, 0, none⟩)] w fun e w' => e = .returned (.bool true) ∧ w' = w := by
  have := rdone_any x b w H
  rw [h0, h1] at this
  exact this
theorem size_rstate7 : (Try.prog.info? 55).map (·.size) = some 7 := by kernel_rfl
set_option maxRecDepth 100000 in
set_option maxHeartbeats 4000000 in
theorem rstate7_any (b : Nat) (w : World) (H : Rd w b x0) :
    Calls Try.prog 46 #[.pointer (some ⟨b, 0, none⟩)] w fun e w' => e = .returned (.agg #[.int .i64 7, .int .i64 0, .slice none 0 0, .slice none 0 0, .slice none 0 0, .slice none 0 0, .slice none 0 0]) ∧ Rd w' b (tkS 2 x6) ∧ Ob b w w' := by
  have hlt := H.lt
  have B0 := (show Below w.heap.size w (w.alloc (.cells #[.int .i64 0, .int .i64 0, .slice none 0 0, .slice none 0 0, .slice none 0 0, .slice none 0 0, .slice none 0 0] 55)) from (Below.refl _ _).alloc (Nat.le_refl _) _)
  have CA0 := Lib.hid (cx_box w [.int .i64 0, .int .i64 0, .slice none 0 0, .slice none 0 0, .slice none 0 0, .slice none 0 0, .slice none 0 0] _ 55 rfl)
  have hR0 := H.below B0
  have O0 := Lib.hid (Ob.of B0 hlt)
  clear B0 H
  go_enter Try.func46, Try.ntmps46
  go_upto_region 1 with fail
  generalize w.alloc (.cells #[.int .i64 0, .int .i64 0, .slice none 0 0, .slice none 0 0, .slice none 0 0, .slice none 0 0, .slice none 0 0] 55) = w0 at *
  have H1 := Lib.hid (rnumber_any x0 8 b w0 hR0 (by omega))
  rw [e0] at H1
  clear hR0
  go_wp2_with fail
  refine H1.out.mono ?_
  rintro e w1 ⟨rfl, hR1, hO1⟩
  have O1 := Lib.hid (O0.out.trans hO1)
  have CA1 := Lib.hid (cx_ob CA0.out hO1 (by omega))
  clear hO1 H1 O0 CA0
  have H2 := Lib.hid (rnumber_any x1 2 b w1 hR1 (by omega))
  rw [e1] at H2
  clear hR1
  go_wp2_with fail
  refine H2.out.mono ?_
  rintro e w2 ⟨rfl, hR2, hO2⟩
  have O2 := Lib.hid (O1.out.trans hO2)
  have CA2 := Lib.hid (cx_ob CA1.out hO2 (by omega))
  clear hO2 H2 O1 CA1
  have H3 := Lib.hid (read0_Holder x2 b w2 hR2 e2)
  clear hR2
  go_wp2_with fail
  refine H3.out.mono ?_
  rintro e w3 ⟨rfl, hR3, hO3⟩
  have O3 := Lib.hid (O2.out.trans hO3)
  have CA3 := Lib.hid (cx_ob CA2.out hO3 (by omega))
  clear hO3 H3 O2 CA2
  have H4 := Lib.hid (read0_Sweep x3 b w3 hR3 e3)
  clear hR3
  go_wp2_with fail
  refine H4.out.mono ?_
  rintro e w4 ⟨rfl, hR4, hO4⟩
  have O4 := Lib.hid (O3.out.trans hO4)
  have CA4 := Lib.hid (cx_ob CA3.out hO4 (by omega))
  clear hO4 H4 O3 CA3
  have H5 := Lib.hid (read0_Known x4 b w4 hR4 e4)
  clear hR4
  go_wp2_with fail
  refine H5.out.mono ?_
  rintro e w5 ⟨rfl, hR5, hO5⟩
  have O5 := Lib.hid (O4.out.trans hO5)
  have CA5 := Lib.hid (cx_ob CA4.out hO5 (by omega))
  clear hO5 H5 O4 CA4
  have H6 := Lib.hid (read0_Probe x5 b w5 hR5 e5)
  clear hR5
  go_wp2_with fail
  refine H6.out.mono ?_
  rintro e w6 ⟨rfl, hR6, hO6⟩
  have O6 := Lib.hid (O5.out.trans hO6)
  have CA6 := Lib.hid (cx_ob CA5.out hO6 (by omega))
  clear hO6 H6 O5 CA5
  have H7 := Lib.hid (read0_Case x6 b w6 hR6 e6)
  clear hR6
  go_wp2_with fail
  refine H7.out.mono ?_
  rintro e w7 ⟨rfl, hR7, hO7⟩
  have O7 := Lib.hid (O6.out.trans hO7)
  have CA7 := Lib.hid (cx_ob CA6.out hO7 (by omega))
  clear hO7 H7 O6 CA6
  have R7 := Lib.hid hR7
  clear hR7
  go_wp2_with (refine at_put 55 (.tmp 2) _ w.heap.size [] [.int .i64 0, .int .i64 0, .slice none 0 0, .slice none 0 0, .slice none 0 0, .slice none 0 0, .slice none 0 0] [.int .i64 7, .int .i64 0, .slice none 0 0, .slice none 0 0, .slice none 0 0, .slice none 0 0, .slice none 0 0] [] (by simpa using CA7.out) rfl (by rw [size_rstate7]; rfl) (by simp [Value.oneCell']) rfl rfl rfl rfl ?_; intro w9 C9 hb9 hk9)
  have e9 : Cx w9 w.heap.size [.int .i64 7, .int .i64 0, .slice none 0 0, .slice none 0 0, .slice none 0 0, .slice none 0 0, .slice none 0 0] := by simpa using C9.out
  refine bodyPost_ret (results_cell rfl _ _ _ _ rfl (loadv 55 _ e9 Try.underlying55 rfl (by rw [size_rstate7]; rfl))) rfl ?_
  exact ⟨rfl, rd_other R7.out hk9.out (by omega), ⟨O7.out.bel.trans (hb9.out _ (by omega)), fun k hkb hkl => by rw [hk9.out k (by omega), O7.out.oth k hkb hkl]⟩⟩
set_option maxRecDepth 100000 in
set_option maxHeartbeats 4000000 in
theorem readSt7 (A : Option Addr) (c : Nat) (w : World) (R : Rw eB w A (stB0 7)) (hc : 20 ≤ c) (hcm : c ≤ 9223372036854775807) (hA : ∀ p, A = some p → p.block < w.heap.size) :
    Calls Try.prog 15 #[.slice A 20 c] w fun e w' => e = .returned (.tuple #[.agg #[.int .i64 7, .int .i64 0, .slice none 0 0, .slice none 0 0, .slice none 0 0, .slice none 0 0, .slice none 0 0], .bool true]) ∧ Below w.heap.size w w' := by
  have B0 := (show Below w.heap.size w ((w.alloc (.cells #[.int .i64 0, .int .i64 0, .slice none 0 0, .slice none 0 0, .slice none 0 0, .slice none 0 0, .slice none 0 0] 55)).alloc (.cells #[.slice A 20 c, .bool false] 71)) from ((Below.refl _ _).alloc (Nat.le_refl _) _).alloc (by simp) _)
  have CR := cx_box (w.alloc (.cells #[.int .i64 0, .int .i64 0, .slice none 0 0, .slice none 0 0, .slice none 0 0, .slice none 0 0, .slice none 0 0] 55)) [.slice A 20 c, .bool false] _ 71 rfl
  rw [World.size_alloc] at CR
  have CZ0 := Lib.hid (Cx.below (cx_box w [.int .i64 0, .int .i64 0, .slice none 0 0, .slice none 0 0, .slice none 0 0, .slice none 0 0, .slice none 0 0] _ 55 rfl) ((Below.refl _ _).alloc (Nat.le_refl _) (.cells #[.slice A 20 c, .bool false] 71)))
  have H0 := (show Rd ((w.alloc (.cells #[.int .i64 0, .int .i64 0, .slice none 0 0, .slice none 0 0, .slice none 0 0, .slice none 0 0, .slice none 0 0] 55)).alloc (.cells #[.slice A 20 c, .bool false] 71)) (w.heap.size + 1) x0 from ⟨A, c, CR, R.below B0, hc, hcm, fun p hp => by have := hA p hp; omega⟩)
  have E0 := Lib.hid B0
  have HE := Lib.hid (rstate7_any (w.heap.size + 1) _ H0)
  have hg0 : w.heap.size + 1 < ((w.alloc (.cells #[.int .i64 0, .int .i64 0, .slice none 0 0, .slice none 0 0, .slice none 0 0, .slice none 0 0, .slice none 0 0] 55)).alloc (.cells #[.slice A 20 c, .bool false] 71)).heap.size := by simp
  clear B0 CR H0 R
  go_enter Try.func15, Try.ntmps15
  go_upto_region 2 with fail
  generalize (w.alloc (.cells #[.int .i64 0, .int .i64 0, .slice none 0 0, .slice none 0 0, .slice none 0 0, .slice none 0 0, .slice none 0 0] 55)).alloc (.cells #[.slice A 20 c, .bool false] 71) = w0 at *
  go_wp2_with fail
  refine HE.out.mono ?_
  rintro e w1 ⟨rfl, hR1, hO1⟩
  have hg1 : w0.heap.size ≤ w1.heap.size := hO1.size
  have B1 := (show Below w1.heap.size w1 (w1.alloc (.cells #[.int .i64 0, .int .i64 0, .slice none 0 0, .slice none 0 0, .slice none 0 0, .slice none 0 0, .slice none 0 0] 55)) from (Below.refl _ _).alloc (Nat.le_refl _) _)
  have hO1b := hO1.trans (Ob.of B1 hR1.lt)
  have E1z := Lib.hid (show Below w.heap.size w (w1.alloc (.cells #[.int .i64 0, .int .i64 0, .slice none 0 0, .slice none 0 0, .slice none 0 0, .slice none 0 0, .slice none 0 0] 55)) from E0.out.trans (hO1b.under (by omega)))
  have CZ1z := Lib.hid (cx_ob CZ0.out hO1b (by omega))
  have CE1z := Lib.hid (cx_box w1 [.int .i64 0, .int .i64 0, .slice none 0 0, .slice none 0 0, .slice none 0 0, .slice none 0 0, .slice none 0 0] _ 55 rfl)
  have R1z := Lib.hid (hR1.below B1)
  have hbl := hR1.lt
  clear hO1 hO1b HE E0 CZ0 B1 hR1
  go_upto_region 3 with (refine at_put 55 (.tmp 5) _ w1.heap.size [] [.int .i64 0, .int .i64 0, .slice none 0 0, .slice none 0 0, .slice none 0 0, .slice none 0 0, .slice none 0 0] [.int .i64 7, .int .i64 0, .slice none 0 0, .slice none 0 0, .slice none 0 0, .slice none 0 0, .slice none 0 0] [] (by simpa using CE1z.out) rfl (by rw [size_rstate7]; rfl) (by simp [Value.oneCell']) rfl rfl rfl rfl ?_; intro w2 CE2s hb2 hk2)
  have E2 := Lib.hid (E1z.out.trans (hb2.out _ (by omega)))
  have CZ2 := Lib.hid (cx_other CZ1z.out hk2.out (by omega))
  have CE2 := Lib.hid (show Cx w2 w1.heap.size [.int .i64 7, .int .i64 0, .slice none 0 0, .slice none 0 0, .slice none 0 0, .slice none 0 0, .slice none 0 0] from by simpa using CE2s.out)
  have hR2 := rd_other R1z.out hk2.out (by omega)
  have HD := Lib.hid (rdone0 _ _ w2 hR2 e7.1 e7.2)
  have hg2 : w.heap.size < w2.heap.size := CZ2.out.lt
  clear E1z CZ1z CE1z R1z CE2s hb2 hk2 hR2
  go_wp2_with fail
  refine HD.out.mono ?_
  rintro e w3 ⟨rfl, rfl⟩
  go_wp2_with (refine at_getg 55 _ (.tmp 5) w1.heap.size [.int .i64 7, .int .i64 0, .slice none 0 0, .slice none 0 0, .slice none 0 0, .slice none 0 0, .slice none 0 0] CE2.out Try.underlying55 rfl ?_ ?_ ?_ ?_ ?_; rotate_left; rotate_left; (with_reducible rfl); rfl; rotate_left; (rw [size_rstate7]; rfl); kernel_rfl)
  refine (right7 _).mono ?_
  rintro e w4 ⟨rfl, hb4⟩
  have E4 := Lib.hid (E2.out.trans (hb4.mono (Nat.le_of_lt hg2)))
  have CZ4 := Lib.hid (Cx.below CZ2.out hb4)
  have CE4 := Lib.hid (show Cx w4 w1.heap.size [.int .i64 7, .int .i64 0, .slice none 0 0, .slice none 0 0, .slice none 0 0, .slice none 0 0, .slice none 0 0] from Cx.below CE2.out hb4)
  clear hb4
  go_upto_region 5 with fail
  go_wp2_with (first | (refine at_get 55 _ (.tmp 5) w1.heap.size [] [.int .i64 7, .int .i64 0, .slice none 0 0, .slice none 0 0, .slice none 0 0, .slice none 0 0, .slice none 0 0] [] (by simpa using CE4.out) Try.underlying55 rfl (by rw [size_rstate7]; rfl) rfl rfl rfl ?_) | (refine at_put 55 (.tmp 2) _ w.heap.size [] [.int .i64 0, .int .i64 0, .slice none 0 0, .slice none 0 0, .slice none 0 0, .slice none 0 0, .slice none 0 0] [.int .i64 7, .int .i64 0, .slice none 0 0, .slice none 0 0, .slice none 0 0, .slice none 0 0, .slice none 0 0] [] (by simpa using CZ4.out) rfl (by rw [size_rstate7]; rfl) (by simp [Value.oneCell']) rfl rfl rfl rfl ?_; intro w9 C9 hb9 hk9))
  have e9 : Cx w9 w.heap.size [.int .i64 7, .int .i64 0, .slice none 0 0, .slice none 0 0, .slice none 0 0, .slice none 0 0, .slice none 0 0] := by simpa using C9.out
  refine bodyPost_ret (results_cell2 rfl _ _ _ _ _ rfl rfl (loadv 55 _ e9 Try.underlying55 rfl (by rw [size_rstate7]; rfl))) rfl ?_
  exact ⟨rfl, E4.out.trans (hb9.out _ (Nat.le_refl _))⟩
end Go.Proofs.Ytbjlklkmcpnemaa
