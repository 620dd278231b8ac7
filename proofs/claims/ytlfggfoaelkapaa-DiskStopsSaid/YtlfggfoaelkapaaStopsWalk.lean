/-
  The walk of DiskStops: called at any two numbers it returns true and changes nothing that was in memory. Conditions: the numbers are of their kinds.
-/
import Derived.Test.YtlfggfoaelkapaaAny
set_option linter.unusedSimpArgs false
namespace Go.Proofs.Ytlfggfoaelkapaa
open Go.RowKit

/-- How the disk is behind so many writes. -/
def St (n : Int) (q : Nat) (M : Dk) : Prop :=
  M.n = 4 ∧ M.fail = none ∧ M.calls ≤ q ∧ ((n < 0 ∧ M.stop = none ∧ M.down = false) ∨ (0 ≤ n ∧ (q : Int) ≤ n ∧ M.stop = some (n.toNat - q) ∧ M.down = false) ∨ (0 ≤ n ∧ n < q ∧ M.down = true))

theorem rfs_in {M : Dk} {a : Int} (hd : M.down = false) (h0 : 0 ≤ a) (h1 : a < M.n) : rfs M a = 0 := by simp [rfs, hd, h0, h1]
theorem St.next {n : Int} {q : Nat} {M : Dk} (h : St n q M) (s : Nat → Nat) :
    (M.wer ((q : Int) % 4) = if n < 0 ∨ (q : Int) < n then 0 else 9) ∧ St n (q + 1) (M.wr ((q : Int) % 4) s) ∧ (M.wr ((q : Int) % 4) s).down = decide (¬ (n < 0 ∨ (q : Int) < n)) := by
  obtain ⟨h1, h2, h3, h4⟩ := h
  have ha : 0 ≤ (q : Int) % 4 := by omega
  have hb : (q : Int) % 4 < M.n := by rw [h1]; omega
  rcases h4 with ⟨hn, hs, hd⟩ | ⟨hn, hq, hs, hd⟩ | ⟨hn, hq, hd⟩
  · have hr := rfs_in hd ha hb
    have he : M.err = 0 := err_none hs h2
    unfold Dk.wer Dk.wr St
    rw [if_pos hr, if_pos hr, he, if_neg (show ¬ (0 : Int) = 10 by decide), if_pos (Or.inl hn)]
    refine ⟨rfl, ⟨h1, by simp [Dk.cnt, h2, tick], by simp [Dk.cnt]; omega, .inl ⟨hn, by simp [Dk.cnt, hs, tick], by simp [Dk.cnt, hd, hs, rings]⟩⟩, by simp [Dk.cnt, hd, hs, rings, hn]⟩
  · have hr := rfs_in hd ha hb
    by_cases hlt : (q : Int) < n
    · obtain ⟨m, hm⟩ : ∃ m, n.toNat - q = m + 1 := ⟨n.toNat - q - 1, by omega⟩
      have he : M.err = 0 := by simp [Dk.err, hs, h2, hm, rings]
      unfold Dk.wer Dk.wr St
      rw [if_pos hr, if_pos hr, he, if_neg (show ¬ (0 : Int) = 10 by decide), if_pos (Or.inr hlt)]
      refine ⟨rfl, ⟨h1, by simp [Dk.cnt, h2, tick], by simp [Dk.cnt]; omega, .inr (.inl ⟨hn, by omega, by simp [Dk.cnt, hs, hm, tick]; omega, by simp [Dk.cnt, hd, hs, hm, rings]⟩)⟩, by simp [Dk.cnt, hd, hs, hm, rings, hlt]⟩
    · have hz : n.toNat - q = 0 := by omega
      have he : M.err = 9 := by simp [Dk.err, hs, h2, hz, rings]
      unfold Dk.wer Dk.wr St
      rw [if_pos hr, if_pos hr, he, if_neg (show ¬ (9 : Int) = 10 by decide), if_neg (show ¬ (n < 0 ∨ (q : Int) < n) by omega)]
      refine ⟨rfl, ⟨h1, by simp [Dk.cnt, h2, tick], by simp [Dk.cnt]; omega, .inr (.inr ⟨hn, by omega, by simp [Dk.cnt, hd, hs, hz, rings]⟩)⟩, ?_⟩
      rw [decide_eq_true (by omega)]
      simp [Dk.cnt, hd, hs, hz, rings]
  · have hr : rfs M ((q : Int) % 4) = 9 := by simp [rfs, hd]
    unfold Dk.wer Dk.wr St
    rw [if_neg (show ¬ rfs M ((q : Int) % 4) = 0 by rw [hr]; decide), if_neg (show ¬ rfs M ((q : Int) % 4) = 0 by rw [hr]; decide), hr, if_neg (show ¬ (n < 0 ∨ (q : Int) < n) by omega)]
    refine ⟨rfl, ⟨h1, h2, by omega, .inr (.inr ⟨hn, by omega, hd⟩)⟩, ?_⟩
    rw [hd, decide_eq_true (by omega)]

set_option maxRecDepth 100000 in
theorem diskStops_walk (n : Int) (writes : Nat) (w : World) (hn : -128 ≤ n ∧ n < 128) (hw : writes < 256) :
    Calls Try.prog 6 #[.int .i8 n, .int .u8 (writes : Int)] w fun e w' => e = .returned (.bool true) ∧ Below w.heap.size w w' := by
  obtain ⟨hn1, hn2⟩ := hn
  obtain ⟨ww, hww⟩ : ∃ ww : Nat, (writes : Int) % 70 = ww := ⟨writes % 70, by omega⟩
  have hw70 : ww < 70 := by omega
  have CO := Lib.hid fun w => of_aux 4 4 (by decide) w
  have CS := Lib.hid fun W => sector_any 1 (by decide) W
  go_enter Try.func6, Try.ntmps6
  go_wp2_with fail
  refine (awake_any _).mono ?_
  rintro e w0 ⟨rfl, b0⟩
  have B0 := Lib.hid b0
  clear b0
  go_wp2_with fail
  refine (CO.out _).mono ?_
  rintro e w1 ⟨p, k, rfl, h1, b1, hp, hk⟩
  have H1 := Lib.hid h1
  have B1 := Lib.hid (B0.out.trans (b1.mono B0.out.size))
  have F1 := Lib.hid (ft_new (Nat.le_trans B0.out.size hp) (Nat.le_trans B0.out.size hk))
  clear h1 b1 hp hk CO B0
  go_wp2_with fail
  have C1 := Lib.hid (arm_any p k _ _ n w1 H1.out (by omega))
  refine (C1.out).mono ?_
  rintro e w2 ⟨rfl, h2, s2⟩
  have H2 : Hid (Ds w2 p k (.slice none 0 0) ⟨4, fun _ => zer, [], 0, al n, none, false⟩) := h2
  have S2 := Lib.hid s2
  have T2 : Hid (St n 0 ⟨4, fun _ => zer, [], 0, al n, none, false⟩) := by
    refine ⟨rfl, rfl, Nat.le_refl _, ?_⟩
    by_cases h : n < 0
    · exact .inl ⟨h, by simp [al, h], rfl⟩
    · exact .inr (.inl ⟨by omega, by omega, by simp [al, h], rfl⟩)
  clear h2 s2 C1 H1
  go_wp2_with fail
  go_loopg [6] ww (fun m i wr => ∃ q : Nat, q + m = ww ∧ i = .int .i64 (q : Int) ∧ Hid (∃ pv M, Ds wr p k pv M ∧ St n q M ∧ Step w1 wr (ft p k (.slice none 0 0)) (ft p k pv)))
  case atStart => exact ⟨0, by omega, rfl, _, _, H2.out, T2.out, S2.out⟩
  case round =>
    clear H2 S2 T2
    obtain ⟨q, hq, rfl, HH⟩ := hrel
    obtain ⟨pv, M, hD, hT, hS⟩ := HH.out
    have D := Lib.hid hD
    have T := Lib.hid hT
    have S := Lib.hid hS
    clear HH hD hT hS
    match gk with
    | 0 =>
      obtain rfl : q = ww := by omega
      have C5 := Lib.hid (down_any p k _ _ wr D.out)
      have C6 := Lib.hid (restart_any p k _ _ 0 (-1) 0 wr D.out (by decide))
      go_wp2_with fail
      by_cases hc1 : n < 0
      · have hd : M.down = false := by rcases T.out.2.2.2 with h | h | h; exact h.2.2; omega; omega
        have hc2 : decide (0 ≤ n) = false := decide_eq_false (by omega)
        rw [hd] at C5
        refine (C5.out).mono ?_
        rintro e w5 ⟨rfl, rfl⟩
        go_wp2_with fail
        refine (C6.out).mono ?_
        rintro e w6 ⟨rfl, h6, s6⟩
        have D6 : Hid (Ds w6 p k (.slice none 0 0) (M.rs 0 (-1) 0)) := h6
        have S6 := Lib.hid (S.out.trans s6)
        clear h6 s6 C6 D
        have hcl : (M.rs 0 (-1) 0).calls + 1 < 1000000 := by have := T.out.2.2.1; show M.calls + 1 < 1000000; omega
        go_wp2_with fail
        refine (down_any p k _ _ w6 D6.out).mono ?_
        rintro e w7 ⟨rfl, rfl⟩
        go_wp2_with fail
        have C8 := Lib.hid (flush_any p k _ _ w6 D6.out hcl)
        rw [show (M.rs 0 (-1) 0).fer = 0 from rfl] at C8
        refine (C8.out).mono ?_
        rintro e w8 ⟨rfl, pv8, h8, s8⟩
        have B8 := Lib.hid (B1.out.trans ((S6.out.trans s8).below B1.out.size F1.out))
        clear h8 s8
        go_wp2_with fail
        go_ret
        exact ⟨rfl, B8.out⟩
      · have hc2 : decide (0 ≤ n) = true := decide_eq_true (by omega)
        by_cases hc3 : n < q
        · have hd : M.down = true := by rcases T.out.2.2.2 with h | h | h; omega; omega; exact h.2.2
          rw [hd] at C5
          refine (C5.out).mono ?_
          rintro e w5 ⟨rfl, rfl⟩
          go_wp2_with fail
          refine (C6.out).mono ?_
          rintro e w6 ⟨rfl, h6, s6⟩
          have D6 : Hid (Ds w6 p k (.slice none 0 0) (M.rs 0 (-1) 0)) := h6
          have S6 := Lib.hid (S.out.trans s6)
          clear h6 s6 C6 D
          have hcl : (M.rs 0 (-1) 0).calls + 1 < 1000000 := by have := T.out.2.2.1; show M.calls + 1 < 1000000; omega
          go_wp2_with fail
          refine (down_any p k _ _ w6 D6.out).mono ?_
          rintro e w7 ⟨rfl, rfl⟩
          go_wp2_with fail
          have C8 := Lib.hid (flush_any p k _ _ w6 D6.out hcl)
          rw [show (M.rs 0 (-1) 0).fer = 0 from rfl] at C8
          refine (C8.out).mono ?_
          rintro e w8 ⟨rfl, pv8, h8, s8⟩
          have B8 := Lib.hid (B1.out.trans ((S6.out.trans s8).below B1.out.size F1.out))
          clear h8 s8
          go_wp2_with fail
          go_ret
          exact ⟨rfl, B8.out⟩
        · have hd : M.down = false := by rcases T.out.2.2.2 with h | h | h; exact h.2.2; exact h.2.2.2; omega
          have hc4 : decide (n < (q : Int)) = false := decide_eq_false hc3
          rw [hd] at C5
          refine (C5.out).mono ?_
          rintro e w5 ⟨rfl, rfl⟩
          go_wp2_with fail
          refine (C6.out).mono ?_
          rintro e w6 ⟨rfl, h6, s6⟩
          have D6 : Hid (Ds w6 p k (.slice none 0 0) (M.rs 0 (-1) 0)) := h6
          have S6 := Lib.hid (S.out.trans s6)
          clear h6 s6 C6 D
          have hcl : (M.rs 0 (-1) 0).calls + 1 < 1000000 := by have := T.out.2.2.1; show M.calls + 1 < 1000000; omega
          go_wp2_with fail
          refine (down_any p k _ _ w6 D6.out).mono ?_
          rintro e w7 ⟨rfl, rfl⟩
          go_wp2_with fail
          have C8 := Lib.hid (flush_any p k _ _ w6 D6.out hcl)
          rw [show (M.rs 0 (-1) 0).fer = 0 from rfl] at C8
          refine (C8.out).mono ?_
          rintro e w8 ⟨rfl, pv8, h8, s8⟩
          have B8 := Lib.hid (B1.out.trans ((S6.out.trans s8).below B1.out.size F1.out))
          clear h8 s8
          go_wp2_with fail
          go_ret
          exact ⟨rfl, B8.out⟩
    | g + 1 =>
      have hlt : q < ww := by omega
      go_wp2_with fail
      refine (CS.out _).mono ?_
      rintro e w3 ⟨rfl, b3⟩
      have D3 := Lib.hid (D.out.below b3)
      have S3 := Lib.hid (S.out.trans (Step.of_below b3 _))
      clear b3 D S
      go_wp2_with fail
      have hcl : M.calls + 1 < 1000000 := by have := T.out.2.2.1; omega
      have C3 := Lib.hid (write_any p k _ _ ((q : Int) % 4) (sec 1) w3 D3.out hcl)
      rw [(T.out.next (sec 1)).1] at C3
      by_cases hc1 : n < 0
      · rw [if_pos (.inl hc1)] at C3
        refine (C3.out).mono ?_
        rintro e w4 ⟨rfl, pv4, h4, s4⟩
        have D4 := Lib.hid h4
        have S4 := Lib.hid (S3.out.trans s4)
        have T4 := Lib.hid (T.out.next (sec 1)).2.1
        clear h4 s4 C3 D3 S3
        go_wp2_with fail
        go_roundg g
        case measure => omega
        case rel => exact ⟨q + 1, by omega, by go_num, _, _, D4.out, T4.out, S4.out⟩
      · by_cases hc2 : (q : Int) < n
        · rw [if_pos (.inr hc2)] at C3
          refine (C3.out).mono ?_
          rintro e w4 ⟨rfl, pv4, h4, s4⟩
          have D4 := Lib.hid h4
          have S4 := Lib.hid (S3.out.trans s4)
          have T4 := Lib.hid (T.out.next (sec 1)).2.1
          clear h4 s4 C3 D3 S3
          go_wp2_with fail
          go_roundg g
          case measure => omega
          case rel => exact ⟨q + 1, by omega, by go_num, _, _, D4.out, T4.out, S4.out⟩
        · rw [if_neg (by omega)] at C3
          refine (C3.out).mono ?_
          rintro e w4 ⟨rfl, pv4, h4, s4⟩
          have D4 := Lib.hid h4
          have S4 := Lib.hid (S3.out.trans s4)
          have T4 := Lib.hid (T.out.next (sec 1)).2.1
          have X4 := Lib.hid (T.out.next (sec 1)).2.2
          have hc3 : decide ((q : Int) < n) = false := decide_eq_false hc2
          clear h4 s4 C3 D3 S3
          go_wp2_with fail
          have C5 := Lib.hid (down_any p k _ _ w4 D4.out)
          rw [X4.out, decide_eq_true (by omega)] at C5
          refine (C5.out).mono ?_
          rintro e w5 ⟨rfl, rfl⟩
          go_wp2_with fail
          go_roundg g
          case measure => omega
          case rel => exact ⟨q + 1, by omega, by go_num, _, _, D4.out, T4.out, S4.out⟩
end Go.Proofs.Ytlfggfoaelkapaa
