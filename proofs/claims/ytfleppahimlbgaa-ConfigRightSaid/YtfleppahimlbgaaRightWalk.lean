/-
  ConfigRight's walk: for every choice, and every nine bytes, it returns true, and nothing that lay in memory is touched. Conditions: bytes are bytes.
-/
import Derived.Test.YtfleppahimlbgaaLaws
namespace Go.Proofs.Ytfleppahimlbgaa
open Go.RowKit

/-- What is wanted, behind k rounds. -/
def Wt (x : Cf) (k : Nat) (n : Int) : Prop := (n = -1 ∧ rt x = ff (bad x) k (9 - k)) ∨ (0 ≤ n ∧ rt x = n)

set_option maxRecDepth 100000 in
set_option maxHeartbeats 2000000 in
theorem configRight_walk (x : Cf) (y : Hc) (w : World) (hy : y.Ok) : Calls Try.prog 3 #[cv x, hv y] w fun e w' => e = .returned (.bool true) ∧ Below w.heap.size w w' := by
  have CA := Lib.hid awake_any
  have CO := Lib.hid (row_any x)
  have CR := Lib.hid (right_any x)
  have CR2 := Lib.hid fun W => (rt_ok (ch_ok y)) ▸ right_any (ch y) W
  have CH := Lib.hid fun W => choice_any y W hy
  have CN := Lib.hid new_any
  have B0 := Lib.hid (((Below.refl w.heap.size w).alloc (Nat.le_refl _) (Cx x 23)).alloc (by simp) (Hx y))
  have X0 := Lib.hid ((cm_box w x 23).below ((Below.refl _ (w.alloc (Cx x 23))).alloc (Nat.le_refl _) (Hx y)))
  have Y0 := Lib.hid (hm_box (w.alloc (Cx x 23)) y)
  rw [World.size_alloc] at Y0
  clear hy
  unfold cv hv
  go_enter Try.func3, Try.ntmps3
  go_wp2_with fail
  refine (CA.out _).mono ?_
  rintro e w1 ⟨rfl, hb⟩
  have B1 := Lib.hid (B0.out.trans (hb.mono B0.out.size))
  have X1 := Lib.hid (X0.out.below hb)
  have Y1 := Lib.hid (Y0.out.below hb)
  clear hb B0 X0 Y0
  go_wp2_with (refine at_load23 _ w.heap.size x X1.out rfl rfl rfl ?_)
  refine (CO.out _).mono ?_
  rintro e w2 ⟨rfl, hb⟩
  have B2 := Lib.hid (B1.out.trans (hb.mono B1.out.size))
  have X2 := Lib.hid (X1.out.below hb)
  have Y2 := Lib.hid (Y1.out.below hb)
  clear hb B1 X1 Y1
  go_wp2_with fail
  go_loopw [5, 12] (fun n i wr => ∃ (k : Nat) (m : Int), k ≤ 9 ∧ i = .int .i64 k ∧ n = .int .i64 m ∧ Wt x k m ∧ Below w2.heap.size w2 wr) (fun _ i _ => 9 - (intOf i).toNat)
  case atStart => exact ⟨0, -1, by omega, rfl, rfl, .inl ⟨rfl, rt_bad x⟩, Below.refl _ _⟩
  case round =>
    obtain ⟨k, m, hk, rfl, rfl, hm, hB⟩ := hrel
    have HM := Lib.hid hm
    have HB := Lib.hid hB
    clear hm hB
    by_cases hlt : k < 9
    · obtain ⟨n, hn⟩ : ∃ n : Nat, 9 - k = n + 1 := ⟨8 - k, by omega⟩
      have HN := Lib.hid hn
      have HN2 := Lib.hid (show 9 - (k + 1) = n by omega)
      have hsz := HB.out.size
      have BB := Lib.hid (HB.out.alloc hsz (.cells #[.int .i64 (x.at k), .int .i64 (lw x k), .int .i64 (hw k)] 27))
      clear hn
      have HD := Lib.hid (show bad x k = (decide (x.at k < lw x k) || decide (hw k < x.at k)) from rfl)
      rcases HM.out with ⟨rfl, h2⟩ | ⟨h1, h2⟩
      · have H2 := Lib.hid h2
        clear h2 HM
        by_cases ha : x.at k < lw x k
        · rw [decide_eq_true ha, Bool.true_or] at HD
          go_wp2_with (refine at_index28 (.tmp 11) (.tmp 12) x k hlt ?_ ?_ ?_ ?_ ?_; (with_reducible rfl); (with_reducible rfl); rfl; rfl)
          go_roundw
          case rel => exact ⟨k + 1, k, by omega, by go_num, rfl, .inr ⟨by omega, by rw [H2.out, HN.out, ff, if_pos HD.out]⟩, BB.out⟩
          case measure => simp [intOf]; omega
        · by_cases hb : hw k < x.at k
          · rw [decide_eq_true hb, Bool.or_true] at HD
            go_wp2_with (refine at_index28 (.tmp 11) (.tmp 12) x k hlt ?_ ?_ ?_ ?_ ?_; (with_reducible rfl); (with_reducible rfl); rfl; rfl)
            go_roundw
            case rel => exact ⟨k + 1, k, by omega, by go_num, rfl, .inr ⟨by omega, by rw [H2.out, HN.out, ff, if_pos HD.out]⟩, BB.out⟩
            case measure => simp [intOf]; omega
          · rw [decide_eq_false ha, decide_eq_false hb, Bool.or_false] at HD
            go_wp2_with (refine at_index28 (.tmp 11) (.tmp 12) x k hlt ?_ ?_ ?_ ?_ ?_; (with_reducible rfl); (with_reducible rfl); rfl; rfl)
            go_roundw
            case rel => exact ⟨k + 1, -1, by omega, by go_num, rfl, .inl ⟨rfl, by rw [H2.out, HN.out, ff, if_neg (by rw [HD.out]; simp), HN2.out]⟩, BB.out⟩
            case measure => simp [intOf]; omega
      · have H2 := Lib.hid h2
        clear h2 HM HD
        go_upto_region 7 with (refine at_index28 (.tmp 11) (.tmp 12) x k hlt ?_ ?_ ?_ ?_ ?_; (with_reducible rfl); (with_reducible rfl); rfl; rfl)
        have h3 : decide (m < 0) = false := decide_eq_false (by omega)
        go_wp2_with fail
        go_roundw
        case rel => exact ⟨k + 1, m, by omega, by go_num, rfl, .inr ⟨h1, H2.out⟩, BB.out⟩
        case measure => simp [intOf]; omega
    · obtain rfl : k = 9 := by omega
      have HE : m = rt x := by
        rcases HM.out with ⟨rfl, h⟩ | ⟨_, h⟩
        · rw [h]; rfl
        · exact h.symm
      subst HE
      have Xr := Lib.hid (X2.out.below HB.out)
      have Yr := Lib.hid (Y2.out.below HB.out)
      have Br := Lib.hid (B2.out.trans (HB.out.mono B2.out.size))
      clear HM HB X2 Y2 B2
      go_wp2_with (refine at_load23 _ w.heap.size x Xr.out rfl rfl rfl ?_)
      refine (CR.out _).mono ?_
      rintro e w3 ⟨rfl, hb⟩
      have B3 := Lib.hid (Br.out.trans (hb.mono Br.out.size))
      have Y3 := Lib.hid (Yr.out.below hb)
      clear hb Br Xr Yr
      go_wp2_with (refine at_load25 _ (w.heap.size + 1) y Y3.out ?_ rfl rfl ?_; kernel_rfl)
      refine (CH.out _).mono ?_
      rintro e w4 ⟨rfl, hb⟩
      have B4 := Lib.hid (B3.out.trans (hb.mono B3.out.size))
      clear hb B3 Y3
      go_wp2_with fail
      refine (CR2.out _).mono ?_
      rintro e w5 ⟨rfl, hb⟩
      have B5 := Lib.hid (B4.out.trans (hb.mono B4.out.size))
      clear hb B4
      go_wp2_with fail
      refine (CN.out _).mono ?_
      rintro e w6 ⟨rfl, hb⟩
      have B6 := Lib.hid (B5.out.trans (hb.mono B5.out.size))
      clear hb B5
      have EQ := eqc_refl nw
      go_wp2_with (refine at_eql23 _ _ nw nw ?_ rfl rfl rfl ?_; kernel_rfl)
      go_ret
      exact ⟨rfl, B6.out⟩
end Go.Proofs.Ytfleppahimlbgaa
