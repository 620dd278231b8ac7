/-
  Contracts of the statements' own 'digits' (of numbers from 0 to 999) and 'text' (of any address): what each returns, and that nothing that was in memory has changed.
-/
import Derived.Test.YtcbknlbpdlheeaaDoorPlain
namespace Go.Proofs.YtcbknlbpdlheeaaDoor
open Go.RowKit

theorem dig_small {n : Int} (h : n < 10) : dig n = [UInt8.ofNat (48 + n.toNat)] := by
  unfold dig; exact dd_small (by omega)
theorem dig_big {n : Int} (h : 10 ≤ n) : dig n = dig (n / 10) ++ dig (n % 10) := by
  rw [dig_small (show n % 10 < 10 by omega)]
  unfold dig
  rw [dd_big (by omega), show (n / 10).toNat = n.toNat / 10 by omega, show (n % 10).toNat = n.toNat % 10 by omega]

theorem slice_dig (n : Int) (h0 : 0 ≤ n) (h1 : n < 10) (w : World) : (Instr.slice 9 (.string ⟨#[48, 49, 50, 51, 52, 53, 54, 55, 56, 57]⟩) (some (.int .i64 n)) (some (.int .i64 (n + 1))) none).run Tryd.prog w = .ok (.string ⟨(dig n).toArray⟩) w := by
  rw [dig_small h1]
  have : n = 0 ∨ n = 1 ∨ n = 2 ∨ n = 3 ∨ n = 4 ∨ n = 5 ∨ n = 6 ∨ n = 7 ∨ n = 8 ∨ n = 9 := by omega
  clear h0 h1
  rcases this with rfl | rfl | rfl | rfl | rfl | rfl | rfl | rfl | rfl | rfl
  all_goals (show _ = _; kernel_rfl)

theorem digits_1 (n : Int) (w : World) (h0 : 0 ≤ n) (h1 : n < 10) :
    Calls Tryd.prog 14 #[.int .i64 n] w fun e w' => e = .returned (.string ⟨(dig n).toArray⟩) ∧ Below w.heap.size w w' := by
  have hs := slice_dig n h0 h1
  go_enter Tryd.func14, Tryd.ntmps14
  go_wp2_with fail
  go_ret
  exact ⟨rfl, Below.refl _ _⟩

theorem digits_up (n : Int) (w : World) (h0 : 10 ≤ n) (h1 : n < 1000) (HA : Hid (∀ W, Calls Tryd.prog 14 #[.int .i64 (n / 10)] W fun e w' => e = .returned (.string ⟨(dig (n / 10)).toArray⟩) ∧ Below W.heap.size W w')) :
    Calls Tryd.prog 14 #[.int .i64 n] w fun e w' => e = .returned (.string ⟨(dig n).toArray⟩) ∧ Below w.heap.size w w' := by
  have HB := Lib.hid fun W => digits_1 (n % 10) W (by omega) (by omega)
  have HD := Lib.hid (dig_big h0)
  have d1 := dig_len (n := n / 10) (by omega)
  have d2 := dig_len (n := n % 10) (by omega)
  generalize dig (n / 10) = l1 at *
  generalize dig (n % 10) = l2 at *
  go_enter Tryd.func14, Tryd.ntmps14
  go_wp2_with fail
  refine (HA.out _).mono ?_
  rintro e w1 ⟨rfl, hb1⟩
  have HB1 := Lib.hid hb1
  clear hb1
  go_wp2_with fail
  refine (HB.out _).mono ?_
  rintro e w2 ⟨rfl, hb2⟩
  have HB2 := Lib.hid (HB1.out.trans (hb2.mono HB1.out.size))
  clear hb2
  go_wp2_with fail
  go_ret
  refine ⟨?_, HB2.out⟩
  rw [HD.out]
  exact ret_str (cat l1 l2)

theorem digits_any (n : Int) (w : World) (h0 : 0 ≤ n) (h1 : n < 1000) :
    Calls Tryd.prog 14 #[.int .i64 n] w fun e w' => e = .returned (.string ⟨(dig n).toArray⟩) ∧ Below w.heap.size w w' := by
  by_cases a : n < 10
  · exact digits_1 n w h0 a
  · by_cases b : n < 100
    · exact digits_up n w (by omega) h1 fun W => digits_1 (n / 10) W (by omega) (by omega)
    · exact digits_up n w (by omega) h1 fun W => digits_up (n / 10) W (by omega) (by omega) fun W => digits_1 (n / 10 / 10) W (by omega) (by omega)

set_option maxHeartbeats 1000000 in
theorem textL_any (a : Int) (w : World) (h0 : 0 ≤ a) (h1 : a < 4294967296) :
    Calls Tryd.prog 13 #[.int .u32 a] w fun e w' => e = .returned (.string ⟨(textL a).toArray⟩) ∧ Below w.heap.size w w' := by
  have H1 := Lib.hid fun W => digits_any (a / 16777216) W (by omega) (by omega)
  have H2 := Lib.hid fun W => digits_any (a / 65536 % 256) W (by omega) (by omega)
  have H3 := Lib.hid fun W => digits_any (a / 256 % 256) W (by omega) (by omega)
  have H4 := Lib.hid fun W => digits_any (a % 256) W (by omega) (by omega)
  have d1 := dig_len (n := a / 16777216) (by omega)
  have d2 := dig_len (n := a / 65536 % 256) (by omega)
  have d3 := dig_len (n := a / 256 % 256) (by omega)
  have d4 := dig_len (n := a % 256) (by omega)
  have v2 := Lib.hid (and255 (a / 65536) (by omega) (by omega))
  have v3 := Lib.hid (and255 (a / 256) (by omega) (by omega))
  have v4 := Lib.hid (and255 a h0 h1)
  have b2 : 0 ≤ bits .and .u32 (a / 65536) 255 := by rw [v2.out]; omega
  have c2 : bits .and .u32 (a / 65536) 255 < 256 := by rw [v2.out]; omega
  have b3 : 0 ≤ bits .and .u32 (a / 256) 255 := by rw [v3.out]; omega
  have c3 : bits .and .u32 (a / 256) 255 < 256 := by rw [v3.out]; omega
  have b4 : 0 ≤ bits .and .u32 a 255 := by rw [v4.out]; omega
  have c4 : bits .and .u32 a 255 < 256 := by rw [v4.out]; omega
  have HL := Lib.hid (show textL a = dig (a / 16777216) ++ 46 :: (dig (a / 65536 % 256) ++ 46 :: (dig (a / 256 % 256) ++ 46 :: dig (a % 256))) from rfl)
  generalize dig (a / 16777216) = l1 at *
  generalize dig (a / 65536 % 256) = l2 at *
  generalize dig (a / 256 % 256) = l3 at *
  generalize dig (a % 256) = l4 at *
  go_enter Tryd.func13, Tryd.ntmps13
  go_wp2_with fail
  refine (H1.out _).mono ?_
  rintro e w1 ⟨rfl, hb1⟩
  have HB1 := Lib.hid hb1
  clear hb1
  go_wp2_with fail
  rw [v2.out]
  refine (H2.out _).mono ?_
  rintro e w2 ⟨rfl, hb2⟩
  have HB2 := Lib.hid (HB1.out.trans (hb2.mono HB1.out.size))
  clear hb2
  go_wp2_with fail
  rw [v3.out]
  refine (H3.out _).mono ?_
  rintro e w3 ⟨rfl, hb3⟩
  have HB3 := Lib.hid (HB2.out.trans (hb3.mono HB2.out.size))
  clear hb3
  go_wp2_with fail
  rw [v4.out]
  refine (H4.out _).mono ?_
  rintro e w4 ⟨rfl, hb4⟩
  have HB4 := Lib.hid (HB3.out.trans (hb4.mono HB3.out.size))
  clear hb4
  go_wp2_with fail
  go_ret
  refine ⟨?_, HB4.out⟩
  rw [HL.out]
  exact ret_str (by rw [show (⟨#[46]⟩ : ByteArray) = ⟨[46].toArray⟩ from rfl]; simp only [cat]; simp)
end Go.Proofs.YtcbknlbpdlheeaaDoor
