/-
  The walk of DiskFails: called at any two numbers it returns true and changes nothing that was in memory. Conditions: the numbers are of their kinds.
-/
import Derived.Test.YtlfggfoaelkapaaAny
set_option linter.unusedSimpArgs false
namespace Go.Proofs.Ytlfggfoaelkapaa
open Go.RowKit

/-- How the disk is behind so many writes. -/
def Fa (n : Nat) (q : Nat) (M : Dk) : Prop :=
  M.n = 2 ∧ M.stop = none ∧ M.down = false ∧ M.calls = q ∧ ((q ≤ n ∧ M.fail = some (n - q) ∧ M.pend.length = q) ∨ (n < q ∧ M.fail = none ∧ M.pend.length + 1 = q))

theorem Fa.next {n q : Nat} {M : Dk} (h : Fa n q M) (s : Nat → Nat) :
    (M.wer ((q : Int) % 2) = if q = n then 10 else 0) ∧ Fa n (q + 1) (M.wr ((q : Int) % 2) s) := by
  obtain ⟨h1, h2, h3, h4, h5⟩ := h
  have hr : rfs M ((q : Int) % 2) = 0 := by
    have : 0 ≤ (q : Int) % 2 ∧ (q : Int) % 2 < M.n := by rw [h1]; omega
    simp [rfs, h3, this]
  unfold Dk.wer Dk.wr Fa
  rw [if_pos hr, if_pos hr]
  rcases h5 with ⟨hq, hf, hl⟩ | ⟨hq, hf, hl⟩
  · by_cases hlt : q = n
    · subst hlt
      have he : M.err = 10 := by simp [Dk.err, h2, hf, rings]
      rw [he, if_pos rfl, if_pos rfl]
      exact ⟨rfl, h1, by simp [Dk.cnt, h2, tick], by simp [Dk.cnt, h2, h3, rings], by simp [Dk.cnt, h4], .inr ⟨by omega, by simp [Dk.cnt, hf, tick], by simp [Dk.cnt, hl]⟩⟩
    · obtain ⟨m, hm⟩ : ∃ m, n - q = m + 1 := ⟨n - q - 1, by omega⟩
      have he : M.err = 0 := by simp [Dk.err, h2, hf, hm, rings]
      rw [he, if_neg hlt, if_neg (show ¬ (0 : Int) = 10 by decide)]
      exact ⟨rfl, h1, by simp [Dk.cnt, h2, tick], by simp [Dk.cnt, h2, h3, rings], by simp [Dk.cnt, h4], .inl ⟨by omega, by simp [Dk.cnt, hf, hm, tick]; omega, by simp [hl]⟩⟩
  · have he : M.err = 0 := by simp [Dk.err, h2, hf, rings]
    rw [he, if_neg (show ¬ q = n by omega), if_neg (show ¬ (0 : Int) = 10 by decide)]
    exact ⟨rfl, h1, by simp [Dk.cnt, h2, tick], by simp [Dk.cnt, h2, h3, rings], by simp [Dk.cnt, h4], .inr ⟨by omega, by simp [Dk.cnt, hf, tick], by simp; omega⟩⟩

set_option maxRecDepth 100000 in
theorem diskFails_walk (n c : Nat) (w : World) (hn : n < 256) (_hc : c < 256) :
    Calls Try.prog 7 #[.int .u8 (n : Int), .int .u8 (c : Int)] w fun e w' => e = .returned (.bool true) ∧ Below w.heap.size w w' := by
  obtain ⟨nn, hnn⟩ : ∃ nn : Nat, (n : Int) % 9 = nn := ⟨n % 9, by omega⟩
  have hn9 : nn < 9 := by omega
  have CO := Lib.hid fun w => of_aux 2 2 (by decide) w
  have CS := Lib.hid fun c h W => sector_any c h W
  go_enter Try.func7, Try.ntmps7
  go_wp2_with fail
  refine (awake_any _).mono ?_
  rintro e w0 ⟨rfl, b0⟩
  have B0 := Lib.hid b0
  clear b0
  go_wp2_with fail
  refine (CO.out _).mono ?_
  rintro e w1 ⟨p, k, rfl, h1, b1, hp, hk⟩
  have H1 := Lib.hid h1
  have B1 := Lib.hid (B0.out.trans (b1.mono B0.out.size))
  have F1 := Lib.hid (ft_new (Nat.le_trans B0.out.size hp) (Nat.le_trans B0.out.size hk))
  clear h1 b1 hp hk CO B0
  go_wp2_with fail
  have C1 := Lib.hid (fail_any p k _ _ (nn : Int) w1 H1.out (by omega))
  refine (C1.out).mono ?_
  rintro e w2 ⟨rfl, h2, s2⟩
  have H2 : Hid (Ds w2 p k (.slice none 0 0) ⟨2, fun _ => zer, [], 0, none, some nn, false⟩) := by
    have e : al (nn : Int) = some nn := by unfold al; rw [if_neg (by omega)]; rfl
    rw [e] at h2
    exact h2
  have S2 := Lib.hid s2
  have T2 : Hid (Fa nn 0 ⟨2, fun _ => zer, [], 0, none, some nn, false⟩) := ⟨rfl, rfl, rfl, rfl, .inl ⟨Nat.zero_le _, rfl, rfl⟩⟩
  clear h2 s2 C1 H1
  go_wp2_with fail
  go_loopg [6, 7] 12 (fun m i j wr => ∃ q : Nat, q + m = 12 ∧ i = .int .i64 (if q ≤ nn then 0 else 1) ∧ j = .int .i64 (q : Int) ∧ Hid (∃ pv M, Ds wr p k pv M ∧ Fa nn q M ∧ Step w1 wr (ft p k (.slice none 0 0)) (ft p k pv)))
  case atStart => exact ⟨0, by omega, by rw [if_pos (Nat.zero_le _)], rfl, _, _, H2.out, T2.out, S2.out⟩
  case round =>
    clear H2 S2 T2
    obtain ⟨q, hq, rfl, rfl, HH⟩ := hrel
    obtain ⟨pv, M, hD, hT, hS⟩ := HH.out
    have D := Lib.hid hD
    have T := Lib.hid hT
    have S := Lib.hid hS
    clear HH hD hT hS
    match gk with
    | 0 =>
      obtain rfl : q = 12 := by omega
      rw [if_neg (by omega)]
      have hl : (M.pend.length : Int) = 11 := by rcases T.out.2.2.2.2 with h | h <;> omega
      have hcl : M.calls + 1 < 1000000 := by have := T.out.2.2.2.1; omega
      have hdn : M.down = false := T.out.2.2.1
      have C5 := Lib.hid (hl ▸ wait_any p k _ _ wr D.out)
      have C6 := Lib.hid (hdn ▸ down_any p k _ _ wr D.out)
      have hfe : M.fer = 0 := by
        rcases T.out.2.2.2.2 with h | h
        · omega
        · simp [Dk.fer, hdn, Dk.err, T.out.2.1, h.2.1, rings]
      have C7 := Lib.hid (hfe ▸ flush_any p k _ _ wr D.out hcl)
      have hfl : (M.fl.pend.length : Int) = 0 := by
        have he : M.err = 0 := by rw [← hfe]; simp [Dk.fer, hdn]
        simp [Dk.fl, hdn, he]
      have HF := Lib.hid hfl
      clear hfl hfe hl hdn
      go_wp2_with fail
      refine (C5.out).mono ?_
      rintro e w5 ⟨rfl, rfl⟩
      go_wp2_with fail
      refine (C6.out).mono ?_
      rintro e w5 ⟨rfl, rfl⟩
      go_wp2_with fail
      refine (C7.out).mono ?_
      rintro e w8 ⟨rfl, pv8, h8, s8⟩
      have B8 := Lib.hid (B1.out.trans ((S.out.trans s8).below B1.out.size F1.out))
      have C8 := Lib.hid (HF.out ▸ wait_any p k _ _ w8 h8)
      clear h8 s8
      go_wp2_with fail
      refine (C8.out).mono ?_
      rintro e w9 ⟨rfl, rfl⟩
      go_wp2_with fail
      go_ret
      exact ⟨rfl, B8.out⟩
    | g + 1 =>
      have hlt : q < 12 := by omega
      obtain ⟨cq, hcq⟩ : ∃ cq : Nat, ((c : Int) + (q : Int)) % 256 = cq := ⟨(c + q) % 256, by omega⟩
      have hcq' : cq < 256 := by omega
      obtain ⟨f, hf⟩ : ∃ f : Int, (if q ≤ nn then (0 : Int) else 1) = f := ⟨_, rfl⟩
      rw [hf]
      have HF := Lib.hid hf
      clear hf
      go_wp2_with fail
      refine (CS.out cq hcq' _).mono ?_
      rintro e w3 ⟨rfl, b3⟩
      have D3 := Lib.hid (D.out.below b3)
      have S3 := Lib.hid (S.out.trans (Step.of_below b3 _))
      clear b3 D S
      go_wp2_with fail
      have hcl : M.calls + 1 < 1000000 := by have := T.out.2.2.2.1; omega
      have C3 := Lib.hid (write_any p k _ _ ((q : Int) % 2) (sec cq) w3 D3.out hcl)
      rw [(T.out.next (sec cq)).1] at C3
      have T4 := Lib.hid (T.out.next (sec cq)).2
      by_cases hqn : q = nn
      · rw [if_pos hqn] at C3
        refine (C3.out).mono ?_
        rintro e w4 ⟨rfl, pv4, h4, s4⟩
        have D4 := Lib.hid h4
        have S4 := Lib.hid (S3.out.trans s4)
        obtain rfl : f = 0 := by rw [← HF.out, if_pos (by omega)]
        have hl : ((M.wr ((q : Int) % 2) (sec cq)).pend.length : Int) = nn := by
          rcases T4.out.2.2.2.2 with h | h <;> omega
        have C5 := Lib.hid (hl ▸ wait_any p k _ _ w4 D4.out)
        clear h4 s4 C3 D3 S3 hl
        subst hqn
        go_wp2_with fail
        refine (C5.out).mono ?_
        rintro e w5 ⟨rfl, rfl⟩
        go_wp2_with fail
        go_roundg g
        case measure => omega
        case rel => exact ⟨q + 1, by omega, by rw [if_neg (by omega)], by go_num, _, _, D4.out, T4.out, S4.out⟩
      · rw [if_neg hqn] at C3
        refine (C3.out).mono ?_
        rintro e w4 ⟨rfl, pv4, h4, s4⟩
        have D4 := Lib.hid h4
        have S4 := Lib.hid (S3.out.trans s4)
        have hff : Hid (f = if q + 1 ≤ nn then 0 else 1) := by
          show f = if q + 1 ≤ nn then 0 else 1
          rw [← HF.out]
          by_cases hle : q ≤ nn
          · rw [if_pos hle, if_pos (by omega)]
          · rw [if_neg hle, if_neg (by omega)]
        clear h4 s4 C3 D3 S3
        go_wp2_with fail
        go_roundg g
        case measure => omega
        case rel => exact ⟨q + 1, by omega, by rw [hff.out], by go_num, _, _, D4.out, T4.out, S4.out⟩
end Go.Proofs.Ytlfggfoaelkapaa
