/-
  The contracts of codec.addNumber and codec.addAddr. Conditions: the row is the call's own; at most eight bytes are added.
-/
import Derived.Test.YtbjlklkmcpnemaaCdB
import Derived.Lib.Hide
set_option linter.unusedSimpArgs false
set_option linter.unusedVariables false
namespace Go.Proofs.Ytbjlklkmcpnemaa
open Go.RowKit

set_option maxRecDepth 100000 in
set_option maxHeartbeats 4000000 in
theorem number_any (B : Nat) (v : Value) (xs : List UInt8) (n : Int) (s : Nat) (w : World) (ho : w.ownsRow B 5 1 v xs.length (bs xs)) (hB : B ≤ w.heap.size) (hx : xs.length ≤ 1000000000) (hs : s ≤ 8) (h0 : -9223372036854775808 ≤ n) (h1 : n ≤ 9223372036854775807) :
    Calls Try.prog 18 #[v, .int .i64 n, .int .i64 (s : Int)] w (OutB B w v (xs ++ nb s n)) := by
  have HO := Lib.hid ho
  clear ho
  go_enter Try.func18, Try.ntmps18
  go_wp2_with fail
  go_loopw [0, 7] (fun b i wr => ∃ (k : Nat) (u : Value), b = u ∧ i = .int .i64 ((k : Int) - 1) ∧ k ≤ s ∧ Hid (wr.ownsRow B 5 1 u (xs ++ nh s k n).length (bs (xs ++ nh s k n)) ∧ Gw w wr v u)) (fun _ i _ => (intOf i + 1).toNat)
  case atStart => exact ⟨s, v, rfl, by go_num, Nat.le_refl _, Lib.hid ⟨by rw [nh_all, List.append_nil]; exact HO.out, Gw.refl w v⟩⟩
  case round =>
    obtain ⟨k, u, rfl, rfl, hk, HR⟩ := hrel
    by_cases hk0 : k = 0
    · subst hk0
      rw [show ((0 : Nat) : Int) - 1 = -1 from rfl]
      go_wp2_with fail
      go_ret
      have hR := HR.out
      rw [nh_none] at hR
      exact ⟨_, rfl, hR.1, hR.2⟩
    · obtain ⟨j, rfl⟩ : ∃ j, k = j + 1 := ⟨k - 1, by omega⟩
      rw [show ((j + 1 : Nat) : Int) - 1 = (j : Int) by omega]
      have hj : (j : Int) ≤ 7 := by omega
      obtain ⟨L, hL⟩ : ∃ L, xs ++ nh s (j + 1) n = L := ⟨_, rfl⟩
      have HL := Lib.hid (show xs ++ nh s j n = L ++ [byt (n / 2 ^ (8 * j))] by rw [← hL, List.append_assoc, ← nh_step n hk])
      have hLl : L.length ≤ 2000000000 := by rw [← hL, List.length_append, nh_length n hk]; omega
      rw [hL] at HR
      clear hL
      have hG := HR.out.2
      have RX := Lib.hid (rw_byte wr (n / 2 ^ (8 * j) % 256) (byt (n / 2 ^ (8 * j))) (byt_nat _))
      have BX := Lib.hid (show Below wr.heap.size wr (wr.alloc (.cells #[.int .u8 (n / 2 ^ (8 * j) % 256)] 5)) from (Below.refl _ _).alloc (Nat.le_refl _) _)
      have OX := Lib.hid (own_keep HR.out.1 BX.out)
      have hb6 : B ≤ (wr.alloc (.cells #[.int .u8 (n / 2 ^ (8 * j) % 256)] 5)).heap.size := Nat.le_trans hB (Nat.le_trans hG.size BX.out.size)
      have hll : L.length + 1 ≤ 1000000000000 := by omega
      clear hG
      go_wp2_with (at_builtin; refine wpList_append_rw2 tB _ rfl (.tmp 14) (.tmp 20) rfl B _ L.length L (by simp [Act.eval, Act.put]) OX.out _ 1 1 [byt (n / 2 ^ (8 * j))] (by simp [Act.eval, Act.put]) rfl RX.out hll hb6 ?_)
      intro v' w' ho' hg' hn'
      have HN := Lib.hid (show w'.ownsRow B 5 1 v' (xs ++ nh s j n).length (bs (xs ++ nh s j n)) ∧ Gw w w' v v' from by
        rw [HL.out]
        exact ⟨own_eq ho' (by simp) rfl, (HR.out.2.trans (Gw.of_below _ BX.out)).trans (Gw.of_grown hg' (by rw [World.size_alloc]; exact hn'))⟩)
      clear ho' hg' hn'
      go_wp2_with fail
      go_roundw
      case rel => exact ⟨j, v', rfl, by go_num, by omega, HN⟩
      case measure => simp [intOf] <;> omega
set_option maxRecDepth 100000 in
set_option maxHeartbeats 4000000 in
theorem addr_any (B : Nat) (v : Value) (xs : List UInt8) (n : Int) (w : World) (ho : w.ownsRow B 5 1 v xs.length (bs xs)) (hB : B ≤ w.heap.size) (hx : xs.length ≤ 1000000000) (h0 : 0 ≤ n) (h1 : n < 4294967296) :
    Calls Try.prog 20 #[v, .int .u32 n] w (OutB B w v (xs ++ nb 4 n)) := by
  have H := Lib.hid (number_any B v xs n 4 w ho hB hx (by omega) (by omega) (by omega))
  clear ho
  go_enter Try.func20, Try.ntmps20
  go_wp2_with fail
  refine H.out.mono ?_
  rintro e w1 ⟨v', rfl, h1, h2⟩
  go_wp2_with fail
  go_ret
  exact ⟨_, rfl, h1, h2⟩
end Go.Proofs.Ytbjlklkmcpnemaa
