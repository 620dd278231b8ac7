/-
  The contracts of the statements' own holder and event. Conditions: the numbers are of their sizes; the owner has at most 10^8 bytes.
-/
import Derived.Test.YtbjlklkmcpnemaaCdS
import Derived.Test.YtbjlklkmcpnemaaCdE
import Derived.Lib.QuietBelow
import Derived.Laws.Concat
set_option linter.unusedSimpArgs false
set_option linter.unusedVariables false
namespace Go.Proofs.Ytbjlklkmcpnemaa
open Go.RowKit

theorem put4 (n : Int) (w : World) (h0 : -9223372036854775808 ≤ n) (h1 : n ≤ 9223372036854775807) : Calls Try.prog 26 #[.int .i64 n, .int .i64 4] w fun e w' => e = .returned (.string (st (nb 4 n))) ∧ Below w.heap.size w w' := put_any n 4 w (by omega) h0 h1
theorem put1 (n : Int) (w : World) (h0 : -9223372036854775808 ≤ n) (h1 : n ≤ 9223372036854775807) : Calls Try.prog 26 #[.int .i64 n, .int .i64 1] w fun e w' => e = .returned (.string (st (nb 1 n))) ∧ Below w.heap.size w w' := put_any n 1 w (by omega) h0 h1
theorem st_str (T : ByteArray) : st T.data.toList = T := by
  apply ByteArray.ext
  simp [st]
set_option maxRecDepth 100000 in
set_option maxHeartbeats 4000000 in
theorem lholder_any (a : Int) (T : ByteArray) (m0 m1 m2 m3 m4 m5 : Int) (w : World) (h0 : 0 ≤ a) (h1 : a < 4294967296) (hT : T.size ≤ 100000000) (hm : By6 m0 m1 m2 m3 m4 m5) :
    Calls Try.prog 27 #[.agg #[.int .u32 a, .string T, .int .u8 m0, .int .u8 m1, .int .u8 m2, .int .u8 m3, .int .u8 m4, .int .u8 m5]] w fun e w' => e = .returned (.string (st (hdB a T m0 m1 m2 m3 m4 m5))) ∧ Below w.heap.size w w' := by
  have B0 := Lib.hid (show Below w.heap.size w (w.alloc (.cells #[.int .u32 a, .string T, .int .u8 m0, .int .u8 m1, .int .u8 m2, .int .u8 m3, .int .u8 m4, .int .u8 m5] 28)) from (Below.refl _ _).alloc (Nat.le_refl _) _)
  have KC := cx_box w [.int .u32 a, .string T, .int .u8 m0, .int .u8 m1, .int .u8 m2, .int .u8 m3, .int .u8 m4, .int .u8 m5] _ 28 rfl
  have k0 := KC.key 0 _ rfl
  have k1 := KC.key 1 _ rfl
  have k2 := KC.key 2 _ rfl
  have k3 := KC.key 3 _ rfl
  have k4 := KC.key 4 _ rfl
  have k5 := KC.key 5 _ rfl
  have k6 := KC.key 6 _ rfl
  have k7 := KC.key 7 _ rfl
  clear KC
  have HP := Lib.hid fun n s W hs g0 g1 => put_any n s W hs g0 g1
  have HM := Lib.hid hm
  have hHT : T.data.toList.length = T.size := by show T.data.toList.length = T.data.size; simp
  go_enter Try.func27, Try.ntmps27
  go_upto_region 1 with fail
  generalize w.alloc (.cells #[.int .u32 a, .string T, .int .u8 m0, .int .u8 m1, .int .u8 m2, .int .u8 m3, .int .u8 m4, .int .u8 m5] 28) = W at *
  obtain ⟨S4, hS4⟩ : ∃ s, st (nb 4 a) = s := ⟨_, rfl⟩
  obtain ⟨S1, hS1⟩ : ∃ s, st (nb 1 (T.size : Int)) = s := ⟨_, rfl⟩
  obtain ⟨X1, hX1⟩ : ∃ s, st (nb 4 a ++ nb 1 (T.size : Int)) = s := ⟨_, rfl⟩
  obtain ⟨X2, hX2⟩ : ∃ s, st (nb 4 a ++ nb 1 (T.size : Int) ++ T.data.toList) = s := ⟨_, rfl⟩
  obtain ⟨SM, hSM⟩ : ∃ s, st (mcB m0 m1 m2 m3 m4 m5) = s := ⟨_, rfl⟩
  obtain ⟨X3, hX3⟩ : ∃ s, st (nb 4 a ++ nb 1 (T.size : Int) ++ T.data.toList ++ mcB m0 m1 m2 m3 m4 m5) = s := ⟨_, rfl⟩
  have hTT := st_str T
  have AX1 : ∀ W, (Op.stringOp .add S4 S1).run Try.prog W = .ok (.string X1) W := fun W => by rw [← hS4, ← hS1, ← hX1]; exact run_addS (nb 4 a) (nb 1 (T.size : Int)) W (by simp [nb_length, mcB] <;> omega)
  have AX2 : ∀ W, (Op.stringOp .add X1 T).run Try.prog W = .ok (.string X2) W := fun W => by rw [← hX1, ← hX2]; have := run_addS (nb 4 a ++ nb 1 (T.size : Int)) T.data.toList W (by simp [nb_length]; omega); rwa [hTT] at this
  have AX3 : ∀ W, (Op.stringOp .add X2 SM).run Try.prog W = .ok (.string X3) W := fun W => by rw [← hX2, ← hSM, ← hX3]; exact run_addS (nb 4 a ++ nb 1 (T.size : Int) ++ T.data.toList) (mcB m0 m1 m2 m3 m4 m5) W (by simp [nb_length, mcB] <;> omega)
  have CSM : ∀ (d : Nat) (os : Array Obj), (convert 37 9 (.slice (some ⟨w.heap.size, 2, none⟩) 6 6)).run Try.prog (Sort.grow (redrawn W d) os) = .ok (.string SM) (Sort.grow (redrawn W d) os) := fun d os => by
    rw [← hSM]
    exact run_strB (some ⟨w.heap.size, 2, none⟩) 6 (mcB m0 m1 m2 m3 m4 m5) _ (rw_bytes (by simp [mcB]) fun j v hv => by
      rw [cs6 HM.out] at hv
      match j, hv with
      | 0, hv => exact (Option.some.inj hv) ▸ cell_regrown k2 d os
      | 1, hv => exact (Option.some.inj hv) ▸ cell_regrown k3 d os
      | 2, hv => exact (Option.some.inj hv) ▸ cell_regrown k4 d os
      | 3, hv => exact (Option.some.inj hv) ▸ cell_regrown k5 d os
      | 4, hv => exact (Option.some.inj hv) ▸ cell_regrown k6 d os
      | 5, hv => exact (Option.some.inj hv) ▸ cell_regrown k7 d os)
  have P4 := Lib.hid fun (d : Nat) (os : Array Obj) => Calls.regrown_of (d := d) (os := os) (put4 a (Sort.grow (redrawn W d) os) (by omega) (by omega))
  have P1 := Lib.hid fun (d : Nat) (os : Array Obj) => Calls.regrown_of (d := d) (os := os) (put1 (T.size : Int) (Sort.grow (redrawn W d) os) (by omega) (by omega))
  rw [hS4] at P4
  rw [hS1] at P1
  have HQ := Lib.hid (show st (hdB a T m0 m1 m2 m3 m4 m5) = X3 from hX3)
  have r0 := cell_regrown k0
  have r1 := cell_regrown k1
  clear hS4 hS1 hX1 hX2 hX3 hSM hTT
  refine wp_region_quiet_below (by kernel_rfl) (by kernel_rfl) ?_
  (try simp only [Act.put])
  repeat (go_big_quiet_step ((go_at_call 26; first | (with_reducible exact P4.out _ _) | (with_reducible exact P1.out _ _))))
  refine wpQuiet_nil ?_
  intro _ hw'
  obtain ⟨⟨dq, osq⟩, hw''⟩ := hw'
  subst hw''
  go_wp2_with fail
  go_ret
  exact ⟨by rw [HQ.out]; rfl, B0.out.trans ((below_regrown _ dq osq).mono B0.out.size)⟩
set_option maxRecDepth 100000 in
set_option maxHeartbeats 8000000 in
theorem levent_any (e : Ev) (w : World) (h : e.Ok) (hT : e.T.size ≤ 100000000) :
    Calls Try.prog 9 #[evv e] w fun z w' => z = .returned (.string (st (evB e))) ∧ Below w.heap.size w w' := by
  have HQ := Lib.hid (show evB e = _ from by unfold evB; rfl)
  obtain ⟨k, a, T, m0, m1, m2, m3, m4, m5, b, n, f, s0, s1, s2, s3, s4, s5, t⟩ := e
  have hk := h.k
  have ha0 := h.a0
  have ha1 := h.a1
  have hb0 := h.b0
  have hb1 := h.b1
  have hn := h.n
  have hf := h.f
  have hm := Lib.hid h.m
  have hs := Lib.hid h.s
  dsimp only at hk ha0 ha1 hb0 hb1 hn hf hT HQ
  simp only [evv, evl]
  have B0 := Lib.hid (show Below w.heap.size w (w.alloc (.cells #[.int .i64 k, .int .u32 a, .string T, .int .u8 m0, .int .u8 m1, .int .u8 m2, .int .u8 m3, .int .u8 m4, .int .u8 m5, .int .u32 b, .int .i64 n, .int .i64 f, .int .u8 s0, .int .u8 s1, .int .u8 s2, .int .u8 s3, .int .u8 s4, .int .u8 s5, .int .i64 t] 35)) from (Below.refl _ _).alloc (Nat.le_refl _) _)
  have KC := Lib.hid (cx_box w [.int .i64 k, .int .u32 a, .string T, .int .u8 m0, .int .u8 m1, .int .u8 m2, .int .u8 m3, .int .u8 m4, .int .u8 m5, .int .u32 b, .int .i64 n, .int .i64 f, .int .u8 s0, .int .u8 s1, .int .u8 s2, .int .u8 s3, .int .u8 s4, .int .u8 s5, .int .i64 t] _ 35 rfl)
  have k0 := KC.out.key 0 _ rfl
  clear h
  have H1 := Lib.hid fun W => put_any k 1 W (by omega) hk.1 hk.2
  go_enter Try.func9, Try.ntmps9
  go_upto_region 1 with fail
  generalize w.alloc (.cells #[.int .i64 k, .int .u32 a, .string T, .int .u8 m0, .int .u8 m1, .int .u8 m2, .int .u8 m3, .int .u8 m4, .int .u8 m5, .int .u32 b, .int .i64 n, .int .i64 f, .int .u8 s0, .int .u8 s1, .int .u8 s2, .int .u8 s3, .int .u8 s4, .int .u8 s5, .int .i64 t] 35) = w0 at *
  go_wp2_with fail
  refine (H1.out _).mono ?_
  rintro e W ⟨rfl, hb⟩
  have B0 := Lib.hid (B0.out.trans (hb.mono B0.out.size))
  have KC := Lib.hid (Cx.below KC.out hb)
  clear H1 hb k0
  have k0 := KC.out.key 0 _ rfl
  obtain ⟨S0, hS0⟩ : ∃ s, st (nb 1 k) = s := ⟨_, rfl⟩
  rw [hS0]
  by_cases e1 : k = 1
  · subst e1
    rw [if_pos rfl] at HQ
    have k1 := KC.out.key 1 _ rfl
    have k2 := KC.out.key 2 _ rfl
    have k3 := KC.out.key 3 _ rfl
    have k4 := KC.out.key 4 _ rfl
    have k5 := KC.out.key 5 _ rfl
    have k6 := KC.out.key 6 _ rfl
    have k7 := KC.out.key 7 _ rfl
    have k8 := KC.out.key 8 _ rfl
    have HH := Lib.hid fun W => lholder_any a T m0 m1 m2 m3 m4 m5 W ha0 ha1 hT hm.out
    have hl : (hdB a T m0 m1 m2 m3 m4 m5).length ≤ 200000000 := by have := hT; simp [hdB, nb_length, mcB]; omega
    obtain ⟨SH, hSH⟩ : ∃ s, st (hdB a T m0 m1 m2 m3 m4 m5) = s := ⟨_, rfl⟩
    obtain ⟨X1, hX1⟩ : ∃ s, st (nb 1 1 ++ hdB a T m0 m1 m2 m3 m4 m5) = s := ⟨_, rfl⟩
    have AX1 : ∀ W, (Op.stringOp .add S0 SH).run Try.prog W = .ok (.string X1) W := fun W => by rw [← hS0, ← hSH, ← hX1]; exact run_addS _ _ W (by rw [nb_length]; omega)
    rw [hSH] at HH
    have HF := Lib.hid (show st (evB ⟨1, a, T, m0, m1, m2, m3, m4, m5, b, n, f, s0, s1, s2, s3, s4, s5, t⟩) = X1 from by rw [HQ.out, hX1])
    clear hSH hX1 hS0 hl HQ
    go_wp2_with fail
    refine (HH.out _).mono ?_
    rintro e w2 ⟨rfl, hb2⟩
    have B2 := Lib.hid (B0.out.trans (hb2.mono B0.out.size))
    clear hb2 HH
    go_wp2_with fail
    go_ret
    exact ⟨by rw [HF.out]; rfl, B2.out⟩
  · rw [if_neg e1] at HQ
    by_cases e2 : k = 2 ∨ k = 6 ∨ k = 7
    · rw [if_pos e2] at HQ
      have k1 := KC.out.key 1 _ rfl
      have HH := Lib.hid fun W => put_any a 4 W (by omega) (by omega) (by omega)
      obtain ⟨SH, hSH⟩ : ∃ s, st (nb 4 a) = s := ⟨_, rfl⟩
      obtain ⟨X1, hX1⟩ : ∃ s, st (nb 1 k ++ nb 4 a) = s := ⟨_, rfl⟩
      have AX1 : ∀ W, (Op.stringOp .add S0 SH).run Try.prog W = .ok (.string X1) W := fun W => by rw [← hS0, ← hSH, ← hX1]; exact run_addS _ _ W (by simp [nb_length])
      rw [hSH] at HH
      have HF := Lib.hid (show st (evB ⟨k, a, T, m0, m1, m2, m3, m4, m5, b, n, f, s0, s1, s2, s3, s4, s5, t⟩) = X1 from by rw [HQ.out, hX1])
      clear hSH hX1 hS0 HQ
      rcases e2 with rfl | rfl | rfl
      all_goals (
        go_wp2_with fail
        refine (HH.out _).mono ?_
        rintro e w2 ⟨rfl, hb2⟩
        have B2 := Lib.hid (B0.out.trans (hb2.mono B0.out.size))
        clear hb2
        go_wp2_with fail
        go_ret
        exact ⟨by rw [HF.out]; rfl, B2.out⟩)
    · rw [if_neg e2] at HQ
      by_cases e3 : k = 3 ∨ k = 4
      · rw [if_pos e3] at HQ
        have k9 := KC.out.key 9 _ rfl
        have k10 := KC.out.key 10 _ rfl
        obtain ⟨SA, hSA⟩ : ∃ s, st (nb 4 b) = s := ⟨_, rfl⟩
        obtain ⟨SB, hSB⟩ : ∃ s, st (nb 1 n) = s := ⟨_, rfl⟩
        obtain ⟨X1, hX1⟩ : ∃ s, st (nb 1 k ++ nb 4 b) = s := ⟨_, rfl⟩
        obtain ⟨X2, hX2⟩ : ∃ s, st (nb 1 k ++ nb 4 b ++ nb 1 n) = s := ⟨_, rfl⟩
        have AX1 : ∀ W, (Op.stringOp .add S0 SA).run Try.prog W = .ok (.string X1) W := fun W => by rw [← hS0, ← hSA, ← hX1]; exact run_addS (nb 1 k) (nb 4 b) W (by simp [nb_length, mcB] <;> omega)
        have AX2 : ∀ W, (Op.stringOp .add X1 SB).run Try.prog W = .ok (.string X2) W := fun W => by rw [← hX1, ← hSB, ← hX2]; exact run_addS (nb 1 k ++ nb 4 b) (nb 1 n) W (by simp [nb_length, mcB] <;> omega)
        have P4 := Lib.hid fun (d : Nat) (os : Array Obj) => Calls.regrown_of (d := d) (os := os) (put4 b (Sort.grow (redrawn W d) os) (by omega) (by omega))
        have P1 := Lib.hid fun (d : Nat) (os : Array Obj) => Calls.regrown_of (d := d) (os := os) (put1 n (Sort.grow (redrawn W d) os) hn.1 hn.2)
        rw [hSA] at P4
        rw [hSB] at P1
        have HF := Lib.hid (show st (evB ⟨k, a, T, m0, m1, m2, m3, m4, m5, b, n, f, s0, s1, s2, s3, s4, s5, t⟩) = X2 from by rw [HQ.out, ← List.append_assoc, hX2])
        have r9 := cell_regrown k9
        have r10 := cell_regrown k10
        clear hSA hSB hX1 hX2 hS0 HQ
        rcases e3 with rfl | rfl
        all_goals (
          go_upto_region 11 with fail
          refine wp_region_quiet_below (by kernel_rfl) (by kernel_rfl) ?_
          (try simp only [Act.put])
          repeat (go_big_quiet_step ((go_at_call 26; first | (with_reducible exact P4.out _ _) | (with_reducible exact P1.out _ _))))
          refine wpQuiet_nil ?_
          intro _ hw'
          obtain ⟨⟨dq, osq⟩, hw''⟩ := hw'
          subst hw''
          go_wp2_with fail
          go_ret
          exact ⟨by rw [HF.out]; rfl, B0.out.trans ((below_regrown _ dq osq).mono B0.out.size)⟩)
      · rw [if_neg e3] at HQ
        by_cases e5 : k = 5
        · rw [if_pos e5] at HQ
          subst e5
          have k1 := KC.out.key 1 _ rfl
          have k11 := KC.out.key 11 _ rfl
          have k12 := KC.out.key 12 _ rfl
          have k13 := KC.out.key 13 _ rfl
          have k14 := KC.out.key 14 _ rfl
          have k15 := KC.out.key 15 _ rfl
          have k16 := KC.out.key 16 _ rfl
          have k17 := KC.out.key 17 _ rfl
          obtain ⟨SA, hSA⟩ : ∃ s, st (nb 4 a) = s := ⟨_, rfl⟩
          obtain ⟨SB, hSB⟩ : ∃ s, st (nb 1 f) = s := ⟨_, rfl⟩
          obtain ⟨SM, hSM⟩ : ∃ s, st (mcB s0 s1 s2 s3 s4 s5) = s := ⟨_, rfl⟩
          obtain ⟨X1, hX1⟩ : ∃ s, st (nb 1 5 ++ nb 4 a) = s := ⟨_, rfl⟩
          obtain ⟨X2, hX2⟩ : ∃ s, st (nb 1 5 ++ nb 4 a ++ nb 1 f) = s := ⟨_, rfl⟩
          obtain ⟨X3, hX3⟩ : ∃ s, st (nb 1 5 ++ nb 4 a ++ nb 1 f ++ mcB s0 s1 s2 s3 s4 s5) = s := ⟨_, rfl⟩
          have AX1 : ∀ W, (Op.stringOp .add S0 SA).run Try.prog W = .ok (.string X1) W := fun W => by rw [← hS0, ← hSA, ← hX1]; exact run_addS (nb 1 5) (nb 4 a) W (by simp [nb_length, mcB] <;> omega)
          have AX2 : ∀ W, (Op.stringOp .add X1 SB).run Try.prog W = .ok (.string X2) W := fun W => by rw [← hX1, ← hSB, ← hX2]; exact run_addS (nb 1 5 ++ nb 4 a) (nb 1 f) W (by simp [nb_length, mcB] <;> omega)
          have AX3 : ∀ W, (Op.stringOp .add X2 SM).run Try.prog W = .ok (.string X3) W := fun W => by rw [← hX2, ← hSM, ← hX3]; exact run_addS (nb 1 5 ++ nb 4 a ++ nb 1 f) (mcB s0 s1 s2 s3 s4 s5) W (by simp [nb_length, mcB] <;> omega)
          have CSM : ∀ (d : Nat) (os : Array Obj), (convert 37 9 (.slice (some ⟨w.heap.size, 12, none⟩) 6 6)).run Try.prog (Sort.grow (redrawn W d) os) = .ok (.string SM) (Sort.grow (redrawn W d) os) := fun d os => by
            rw [← hSM]
            exact run_strB (some ⟨w.heap.size, 12, none⟩) 6 (mcB s0 s1 s2 s3 s4 s5) _ (rw_bytes (by simp [mcB]) fun j v hv => by
              rw [cs6 hs.out] at hv
              match j, hv with
              | 0, hv => exact (Option.some.inj hv) ▸ cell_regrown k12 d os
              | 1, hv => exact (Option.some.inj hv) ▸ cell_regrown k13 d os
              | 2, hv => exact (Option.some.inj hv) ▸ cell_regrown k14 d os
              | 3, hv => exact (Option.some.inj hv) ▸ cell_regrown k15 d os
              | 4, hv => exact (Option.some.inj hv) ▸ cell_regrown k16 d os
              | 5, hv => exact (Option.some.inj hv) ▸ cell_regrown k17 d os)
          have P4 := Lib.hid fun (d : Nat) (os : Array Obj) => Calls.regrown_of (d := d) (os := os) (put4 a (Sort.grow (redrawn W d) os) (by omega) (by omega))
          have P1 := Lib.hid fun (d : Nat) (os : Array Obj) => Calls.regrown_of (d := d) (os := os) (put1 f (Sort.grow (redrawn W d) os) hf.1 hf.2)
          rw [hSA] at P4
          rw [hSB] at P1
          have HF := Lib.hid (show st (evB ⟨5, a, T, m0, m1, m2, m3, m4, m5, b, n, f, s0, s1, s2, s3, s4, s5, t⟩) = X3 from by rw [HQ.out, ← List.append_assoc, ← List.append_assoc, hX3])
          have r1 := cell_regrown k1
          have r11 := cell_regrown k11
          clear hSA hSB hX1 hX2 hX3 hSM hS0 HQ
          go_upto_region 13 with fail
          refine wp_region_quiet_below (by kernel_rfl) (by kernel_rfl) ?_
          (try simp only [Act.put])
          repeat (go_big_quiet_step ((go_at_call 26; first | (with_reducible exact P4.out _ _) | (with_reducible exact P1.out _ _))))
          refine wpQuiet_nil ?_
          intro _ hw'
          obtain ⟨⟨dq, osq⟩, hw''⟩ := hw'
          subst hw''
          go_wp2_with fail
          go_ret
          exact ⟨by rw [HF.out]; rfl, B0.out.trans ((below_regrown _ dq osq).mono B0.out.size)⟩
        · rw [if_neg e5, List.append_nil] at HQ
          have d1 : (k == 1) = false := beq_eq_false_iff_ne.2 e1
          have d2 : (k == 2) = false := beq_eq_false_iff_ne.2 fun h => e2 (.inl h)
          have d6 : (k == 6) = false := beq_eq_false_iff_ne.2 fun h => e2 (.inr (.inl h))
          have d7 : (k == 7) = false := beq_eq_false_iff_ne.2 fun h => e2 (.inr (.inr h))
          have d3 : (k == 3) = false := beq_eq_false_iff_ne.2 fun h => e3 (.inl h)
          have d4 : (k == 4) = false := beq_eq_false_iff_ne.2 fun h => e3 (.inr h)
          have d5 : (k == 5) = false := beq_eq_false_iff_ne.2 e5
          go_wp2_with fail
          go_ret
          rw [HQ.out, hS0]
          exact ⟨rfl, B0.out⟩
end Go.Proofs.Ytbjlklkmcpnemaa
