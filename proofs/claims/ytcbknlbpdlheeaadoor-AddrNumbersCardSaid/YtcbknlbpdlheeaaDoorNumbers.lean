/-
  The walks of AddrNumbers: four numbers that are an address, one number above 255, one with a 0 ahead. Condition: the library's table of powers of ten lies as its text lays it.
-/
import Derived.Test.YtcbknlbpdlheeaaDoorAwake
import Derived.Test.YtcbknlbpdlheeaaDoorDigits
namespace Go.Proofs.YtcbknlbpdlheeaaDoor
open Go.RowKit

theorem dig_inj {n m : Int} (hn : 0 ≤ n) (hm : 0 ≤ m) (h : dig n = dig m) : n = m := by
  have h1 := numO_dig (n + m) n hn (by omega)
  have h2 := numO_dig (n + m) m hm (by omega)
  rw [h, h2] at h1
  exact (Option.some.inj h1).symm

theorem numO_over {n : Int} (h : 255 < n) : numO 255 (dig n) = none := by
  cases e : numO 255 (dig n) with
  | none => rfl
  | some m =>
    obtain ⟨m0, m1⟩ := numO_bd (by decide) e
    have := dig_inj (by omega) m0 (numO_back e)
    omega

theorem dig_ne (n : Int) : dig n ≠ [] := by
  intro h
  have := Lib.nDigits_pos n.toNat
  rw [← Lib.decDigits_length] at this
  unfold dig at h
  rw [h] at this
  simp at this

theorem numO_zero (n : Int) : numO 255 (48 :: dig n) = none := by
  show (if (48 : UInt8) = 48 ∧ dig n ≠ [] then none else numGo 255 0 (48 :: dig n)) = none
  exact if_pos ⟨rfl, dig_ne n⟩

theorem zero_not (n : Int) : (46 : UInt8) ∉ 48 :: dig n := by
  intro h
  rcases List.mem_cons.1 h with h | h
  · exact absurd h (by decide)
  · exact dig_not n 46 (by decide) h

theorem pn_yes (a n b : Int) (a0 : 0 ≤ a) (a1 : a < 256) (n0 : 0 ≤ n) (n1 : n < 256) (b0 : 0 ≤ b) (b1 : b < 256) :
    parseO (dig a ++ 46 :: (dig n ++ 46 :: (dig b ++ [46, 48]))) = some (a * 16777216 + n * 65536 + b * 256) := by
  have h := parse_text (a * 16777216 + n * 65536 + b * 256) (by omega) (by omega)
  unfold textL at h
  rw [show (a * 16777216 + n * 65536 + b * 256) / 16777216 = a by omega, show (a * 16777216 + n * 65536 + b * 256) / 65536 % 256 = n by omega, show (a * 16777216 + n * 65536 + b * 256) / 256 % 256 = b by omega, show (a * 16777216 + n * 65536 + b * 256) % 256 = 0 by omega, show dig 0 = [48] from dd_small (by decide)] at h
  exact h

theorem pn_no (a b : Int) (t : List UInt8) (a0 : 0 ≤ a) (a1 : a < 256) (ht : (46 : UInt8) ∉ t) (hn : numO 255 t = none) :
    parseO (dig a ++ 46 :: (t ++ 46 :: (dig b ++ [46, 48]))) = none := by
  unfold parseO
  simp only [parseGo, cut_at (dig_not a 46 (by decide)), cut_at ht, numO_dig 255 a a0 (by omega), hn]
  simp

theorem parse_at (s : ByteArray) (l : List UInt8) (v : Option Int) (w : World) (hl : s.data.toList = l) (hs : l.length ≤ 1000) (hv : parseO l = v) :
    Calls Tryd.prog 11 #[.string s] w fun e w' => e = .returned (parseV v) ∧ Below w.heap.size w w' := by
  have := parse_any s w (by rw [Lib.size_eq, hl]; unfold maxLen; omega)
  rwa [hl, hv] at this

set_option maxHeartbeats 1000000 in
set_option maxRecDepth 100000 in
theorem numbers_yes (a b c : Int) (w : World) (a0 : 0 ≤ a) (a1 : a < 256) (b0 : 0 ≤ b) (b1 : b < 256) (c0 : 0 ≤ c) (c1 : c < 65536) (hn : c % 400 < 256) (ht : Tab w) :
    Calls Tryd.prog 4 #[.int .u8 a, .int .u8 b, .int .u16 c, .bool false] w fun e w' => e = .returned (.bool true) ∧ Below w.heap.size w w' := by
  have H1 := Lib.hid fun W => digits_any (c % 400) W (by omega) (by omega)
  have H2 := Lib.hid fun W => digits_any a W a0 (by omega)
  have H3 := Lib.hid fun W => digits_any b W b0 (by omega)
  have n0 : 0 ≤ c % 400 := by omega
  have HP := Lib.hid (pn_yes a (c % 400) b a0 a1 n0 hn b0 b1)
  have d1 := dig_len (n := c % 400) (by omega)
  have d2 := dig_len (n := a) (by omega)
  have d3 := dig_len (n := b) (by omega)
  generalize dig (c % 400) = l1 at *
  generalize dig a = l2 at *
  generalize dig b = l3 at *
  have HT := Lib.hid ht
  clear ht
  go_enter Tryd.func4, Tryd.ntmps4
  go_wp2_with fail
  refine (awake_any _ HT.out).mono ?_
  rintro e w1 ⟨rfl, hb1⟩
  have HB1 := Lib.hid hb1
  clear hb1
  go_wp2_with fail
  refine (H1.out _).mono ?_
  rintro e w2 ⟨rfl, hb2⟩
  have HB2 := Lib.hid (HB1.out.trans (hb2.mono HB1.out.size))
  clear hb2
  go_wp2_with fail
  refine (H2.out _).mono ?_
  rintro e w3 ⟨rfl, hb3⟩
  have HB3 := Lib.hid (HB2.out.trans (hb3.mono HB2.out.size))
  clear hb3
  go_wp2_with fail
  refine (H3.out _).mono ?_
  rintro e w4 ⟨rfl, hb4⟩
  have HB4 := Lib.hid (HB3.out.trans (hb4.mono HB3.out.size))
  clear hb4
  go_wp2_with fail
  refine (parse_at _ (l2 ++ 46 :: (l1 ++ 46 :: (l3 ++ [46, 48]))) _ _ (by simp [ByteArray.data_append]) (by simp; omega) HP.out).mono ?_
  rintro e w5 ⟨rfl, hb5⟩
  have HB5 := Lib.hid (HB4.out.trans (hb5.mono HB4.out.size))
  clear hb5
  simp only [parseV]
  go_wp2_with fail
  go_ret
  exact ⟨rfl, HB5.out⟩
set_option maxHeartbeats 1000000 in
set_option maxRecDepth 100000 in
theorem numbers_no (a b c : Int) (w : World) (a0 : 0 ≤ a) (a1 : a < 256) (b0 : 0 ≤ b) (b1 : b < 256) (c0 : 0 ≤ c) (c1 : c < 65536) (hn : 256 ≤ c % 400) (ht : Tab w) :
    Calls Tryd.prog 4 #[.int .u8 a, .int .u8 b, .int .u16 c, .bool false] w fun e w' => e = .returned (.bool true) ∧ Below w.heap.size w w' := by
  have H1 := Lib.hid fun W => digits_any (c % 400) W (by omega) (by omega)
  have H2 := Lib.hid fun W => digits_any a W a0 (by omega)
  have H3 := Lib.hid fun W => digits_any b W b0 (by omega)
  have n0 : 0 ≤ c % 400 := by omega
  have HP := Lib.hid (pn_no a b (dig (c % 400)) a0 a1 (dig_not _ 46 (by decide)) (numO_over (by omega)))
  have d1 := dig_len (n := c % 400) (by omega)
  have d2 := dig_len (n := a) (by omega)
  have d3 := dig_len (n := b) (by omega)
  generalize dig (c % 400) = l1 at *
  generalize dig a = l2 at *
  generalize dig b = l3 at *
  have HT := Lib.hid ht
  clear ht
  go_enter Tryd.func4, Tryd.ntmps4
  go_wp2_with fail
  refine (awake_any _ HT.out).mono ?_
  rintro e w1 ⟨rfl, hb1⟩
  have HB1 := Lib.hid hb1
  clear hb1
  go_wp2_with fail
  refine (H1.out _).mono ?_
  rintro e w2 ⟨rfl, hb2⟩
  have HB2 := Lib.hid (HB1.out.trans (hb2.mono HB1.out.size))
  clear hb2
  go_wp2_with fail
  refine (H2.out _).mono ?_
  rintro e w3 ⟨rfl, hb3⟩
  have HB3 := Lib.hid (HB2.out.trans (hb3.mono HB2.out.size))
  clear hb3
  go_wp2_with fail
  refine (H3.out _).mono ?_
  rintro e w4 ⟨rfl, hb4⟩
  have HB4 := Lib.hid (HB3.out.trans (hb4.mono HB3.out.size))
  clear hb4
  go_wp2_with fail
  refine (parse_at _ (l2 ++ 46 :: (l1 ++ 46 :: (l3 ++ [46, 48]))) _ _ (by simp [ByteArray.data_append]) (by simp; omega) HP.out).mono ?_
  rintro e w5 ⟨rfl, hb5⟩
  have HB5 := Lib.hid (HB4.out.trans (hb5.mono HB4.out.size))
  clear hb5
  simp only [parseV]
  go_wp2_with fail
  go_ret
  exact ⟨rfl, HB5.out⟩
set_option maxHeartbeats 1000000 in
set_option maxRecDepth 100000 in
theorem numbers_zero (a b c : Int) (w : World) (a0 : 0 ≤ a) (a1 : a < 256) (b0 : 0 ≤ b) (b1 : b < 256) (c0 : 0 ≤ c) (c1 : c < 65536) (ht : Tab w) :
    Calls Tryd.prog 4 #[.int .u8 a, .int .u8 b, .int .u16 c, .bool true] w fun e w' => e = .returned (.bool true) ∧ Below w.heap.size w w' := by
  have H1 := Lib.hid fun W => digits_any (c % 400) W (by omega) (by omega)
  have H2 := Lib.hid fun W => digits_any a W a0 (by omega)
  have H3 := Lib.hid fun W => digits_any b W b0 (by omega)
  have HP := Lib.hid (pn_no a b (48 :: dig (c % 400)) a0 a1 (zero_not _) (numO_zero _))
  have d1 := dig_len (n := c % 400) (by omega)
  have d2 := dig_len (n := a) (by omega)
  have d3 := dig_len (n := b) (by omega)
  generalize dig (c % 400) = l1 at *
  generalize dig a = l2 at *
  generalize dig b = l3 at *
  have HT := Lib.hid ht
  clear ht
  go_enter Tryd.func4, Tryd.ntmps4
  go_wp2_with fail
  refine (awake_any _ HT.out).mono ?_
  rintro e w1 ⟨rfl, hb1⟩
  have HB1 := Lib.hid hb1
  clear hb1
  go_wp2_with fail
  refine (H1.out _).mono ?_
  rintro e w2 ⟨rfl, hb2⟩
  have HB2 := Lib.hid (HB1.out.trans (hb2.mono HB1.out.size))
  clear hb2
  go_wp2_with fail
  refine (H2.out _).mono ?_
  rintro e w3 ⟨rfl, hb3⟩
  have HB3 := Lib.hid (HB2.out.trans (hb3.mono HB2.out.size))
  clear hb3
  go_wp2_with fail
  refine (H3.out _).mono ?_
  rintro e w4 ⟨rfl, hb4⟩
  have HB4 := Lib.hid (HB3.out.trans (hb4.mono HB3.out.size))
  clear hb4
  go_wp2_with fail
  refine (parse_at _ (l2 ++ 46 :: (48 :: l1 ++ 46 :: (l3 ++ [46, 48]))) _ _ (by simp [ByteArray.data_append]) (by simp; omega) HP.out).mono ?_
  rintro e w5 ⟨rfl, hb5⟩
  have HB5 := Lib.hid (HB4.out.trans (hb5.mono HB4.out.size))
  clear hb5
  simp only [parseV]
  go_wp2_with fail
  all_goals
    go_ret
    exact ⟨rfl, HB5.out⟩
end Go.Proofs.YtcbknlbpdlheeaaDoor
