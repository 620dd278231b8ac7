/-
  The contracts of codec.State and codec.ReadState at a state without rows. Conditions: the bytes lie in memory.
-/
import Derived.Test.YtbjlklkmcpnemaaCdZ
import Derived.BigGuard
import Derived.Lib.QuietBelow
set_option linter.unusedSimpArgs false
set_option linter.unusedVariables false
namespace Go.Proofs.Ytbjlklkmcpnemaa
open Go.RowKit

set_option maxRecDepth 100000 in
set_option maxHeartbeats 4000000 in
theorem list0_Holder (B : Nat) (v : Value) (xs : List UInt8) (w : World) (ho : w.ownsRow B 5 1 v xs.length (bs xs)) (hB : B ≤ w.heap.size) (hx : xs.length ≤ 1000000) :
    Calls Try.prog 37 #[v, .slice none 0 0, .func (.func 19) #[] #[]] w (OutB B w v (xs ++ nb 2 0)) := by
  have H := Lib.hid (number_any B v xs 0 2 w ho hB (by omega) (by omega) (by omega) (by omega))
  clear ho
  go_enter Try.func37, Try.ntmps37
  go_wp2_with fail
  refine H.out.mono ?_
  rintro e w1 ⟨v1, rfl, ho1, hg1⟩
  have E1 := Lib.hid (And.intro ho1 hg1)
  clear ho1 hg1
  go_wp2_with fail
  go_loopw [0, 15] (fun b i wr => b = v1 ∧ i = .int .i64 0 ∧ wr = w1) (fun _ _ _ => 0)
  case atStart => exact ⟨rfl, rfl, rfl⟩
  case round =>
    obtain ⟨rfl, rfl, rfl⟩ := hrel
    go_wp2_with fail
    go_ret
    exact ⟨_, rfl, E1.out⟩
set_option maxRecDepth 100000 in
set_option maxHeartbeats 4000000 in
theorem list0_Sweep (B : Nat) (v : Value) (xs : List UInt8) (w : World) (ho : w.ownsRow B 5 1 v xs.length (bs xs)) (hB : B ≤ w.heap.size) (hx : xs.length ≤ 1000000) :
    Calls Try.prog 38 #[v, .slice none 0 0, .func (.func 39) #[] #[]] w (OutB B w v (xs ++ nb 2 0)) := by
  have H := Lib.hid (number_any B v xs 0 2 w ho hB (by omega) (by omega) (by omega) (by omega))
  clear ho
  go_enter Try.func38, Try.ntmps38
  go_wp2_with fail
  refine H.out.mono ?_
  rintro e w1 ⟨v1, rfl, ho1, hg1⟩
  have E1 := Lib.hid (And.intro ho1 hg1)
  clear ho1 hg1
  go_wp2_with fail
  go_loopw [0, 15] (fun b i wr => b = v1 ∧ i = .int .i64 0 ∧ wr = w1) (fun _ _ _ => 0)
  case atStart => exact ⟨rfl, rfl, rfl⟩
  case round =>
    obtain ⟨rfl, rfl, rfl⟩ := hrel
    go_wp2_with fail
    go_ret
    exact ⟨_, rfl, E1.out⟩
set_option maxRecDepth 100000 in
set_option maxHeartbeats 4000000 in
theorem list0_Known (B : Nat) (v : Value) (xs : List UInt8) (w : World) (ho : w.ownsRow B 5 1 v xs.length (bs xs)) (hB : B ≤ w.heap.size) (hx : xs.length ≤ 1000000) :
    Calls Try.prog 40 #[v, .slice none 0 0, .func (.func 41) #[] #[]] w (OutB B w v (xs ++ nb 2 0)) := by
  have H := Lib.hid (number_any B v xs 0 2 w ho hB (by omega) (by omega) (by omega) (by omega))
  clear ho
  go_enter Try.func40, Try.ntmps40
  go_wp2_with fail
  refine H.out.mono ?_
  rintro e w1 ⟨v1, rfl, ho1, hg1⟩
  have E1 := Lib.hid (And.intro ho1 hg1)
  clear ho1 hg1
  go_wp2_with fail
  go_loopw [0, 15] (fun b i wr => b = v1 ∧ i = .int .i64 0 ∧ wr = w1) (fun _ _ _ => 0)
  case atStart => exact ⟨rfl, rfl, rfl⟩
  case round =>
    obtain ⟨rfl, rfl, rfl⟩ := hrel
    go_wp2_with fail
    go_ret
    exact ⟨_, rfl, E1.out⟩
set_option maxRecDepth 100000 in
set_option maxHeartbeats 4000000 in
theorem list0_Probe (B : Nat) (v : Value) (xs : List UInt8) (w : World) (ho : w.ownsRow B 5 1 v xs.length (bs xs)) (hB : B ≤ w.heap.size) (hx : xs.length ≤ 1000000) :
    Calls Try.prog 42 #[v, .slice none 0 0, .func (.func 43) #[] #[]] w (OutB B w v (xs ++ nb 2 0)) := by
  have H := Lib.hid (number_any B v xs 0 2 w ho hB (by omega) (by omega) (by omega) (by omega))
  clear ho
  go_enter Try.func42, Try.ntmps42
  go_wp2_with fail
  refine H.out.mono ?_
  rintro e w1 ⟨v1, rfl, ho1, hg1⟩
  have E1 := Lib.hid (And.intro ho1 hg1)
  clear ho1 hg1
  go_wp2_with fail
  go_loopw [0, 15] (fun b i wr => b = v1 ∧ i = .int .i64 0 ∧ wr = w1) (fun _ _ _ => 0)
  case atStart => exact ⟨rfl, rfl, rfl⟩
  case round =>
    obtain ⟨rfl, rfl, rfl⟩ := hrel
    go_wp2_with fail
    go_ret
    exact ⟨_, rfl, E1.out⟩
set_option maxRecDepth 100000 in
set_option maxHeartbeats 4000000 in
theorem list0_Case (B : Nat) (v : Value) (xs : List UInt8) (w : World) (ho : w.ownsRow B 5 1 v xs.length (bs xs)) (hB : B ≤ w.heap.size) (hx : xs.length ≤ 1000000) :
    Calls Try.prog 44 #[v, .slice none 0 0, .func (.func 45) #[] #[]] w (OutB B w v (xs ++ nb 2 0)) := by
  have H := Lib.hid (number_any B v xs 0 2 w ho hB (by omega) (by omega) (by omega) (by omega))
  clear ho
  go_enter Try.func44, Try.ntmps44
  go_wp2_with fail
  refine H.out.mono ?_
  rintro e w1 ⟨v1, rfl, ho1, hg1⟩
  have E1 := Lib.hid (And.intro ho1 hg1)
  clear ho1 hg1
  go_wp2_with fail
  go_loopw [0, 15] (fun b i wr => b = v1 ∧ i = .int .i64 0 ∧ wr = w1) (fun _ _ _ => 0)
  case atStart => exact ⟨rfl, rfl, rfl⟩
  case round =>
    obtain ⟨rfl, rfl, rfl⟩ := hrel
    go_wp2_with fail
    go_ret
    exact ⟨_, rfl, E1.out⟩
/-- A state's bytes, where there are no rows. -/
def stB0 (n : Int) : List UInt8 := nb 8 n ++ nb 2 0 ++ nb 2 0 ++ nb 2 0 ++ nb 2 0 ++ nb 2 0 ++ nb 2 0
set_option maxRecDepth 100000 in
set_option maxHeartbeats 4000000 in
theorem state0_any (n : Int) (w : World) (h0 : 0 ≤ n) (h1 : n ≤ 9223372036854775807) :
    Calls Try.prog 14 #[.agg #[.int .i64 n, .int .i64 0, .slice none 0 0, .slice none 0 0, .slice none 0 0, .slice none 0 0, .slice none 0 0]] w (OutL w.heap.size w (stB0 n)) := by
  have B0 := (show Below w.heap.size w (w.alloc (.cells #[.int .i64 n, .int .i64 0, .slice none 0 0, .slice none 0 0, .slice none 0 0, .slice none 0 0, .slice none 0 0] 55)) from (Below.refl _ _).alloc (Nat.le_refl _) _)
  have KC := Lib.hid (cx_box w [.int .i64 n, .int .i64 0, .slice none 0 0, .slice none 0 0, .slice none 0 0, .slice none 0 0, .slice none 0 0] _ 55 rfl)
  have E0 := Lib.hid B0
  have k0 := KC.out.key 0 _ rfl
  clear B0
  go_enter Try.func14, Try.ntmps14
  go_upto_region 1 with fail
  generalize w.alloc (.cells #[.int .i64 n, .int .i64 0, .slice none 0 0, .slice none 0 0, .slice none 0 0, .slice none 0 0, .slice none 0 0] 55) = w0 at *
  obtain ⟨b, hb⟩ : ∃ b, w.heap.size = b := ⟨_, rfl⟩
  have hlt0 : b < w0.heap.size := by rw [← hb]; exact KC.out.lt
  rw [hb] at KC E0 k0
  have ho0 := own_byte w0 b
  have hv0 : some b ≠ (Value.slice none 0 0).ownBlock := by intro h; cases h
  have KC0 := Lib.hid fun j v h => KC.out.key j v h
  clear KC
  have O0 := Lib.hid ho0
  clear ho0
  have H0 := Lib.hid (number_any b (.slice none 0 0) (([] : List UInt8)) n 8 w0 O0.out (by omega) (by simp [nb_length]) (by omega) (by omega) (by omega))
  go_wp2_with fail
  refine H0.out.mono ?_
  rintro e w1 ⟨v1, rfl, ho1, hg1⟩
  have E1 := Lib.hid (E0.out.trans (hg1.below O0.out (by omega)))
  have hlt1 : b < w1.heap.size := Nat.lt_of_lt_of_le hlt0 hg1.size
  have KC1 := Lib.hid fun j v h => hg1.cell (a := ⟨b, j, none⟩) hlt0 hv0 (KC0.out j v h)
  have hv1 : some b ≠ v1.ownBlock := fun h => by
    rcases hg1.new b h.symm with h2 | h2
    · exact hv0 h2.symm
    · omega
  have O1 := Lib.hid (show w1.ownsRow b 5 1 v1 (nb 8 n).length (bs (nb 8 n)) from ho1)
  clear ho1 hg1 H0 KC0 hv0 hlt0 E0 O0 k0
  have k1 := KC1.out 1 _ rfl
  have H1 := Lib.hid (number_any b v1 (nb 8 n) 0 2 w1 O1.out (by omega) (by simp [nb_length]) (by omega) (by omega) (by omega))
  go_wp2_with fail
  refine H1.out.mono ?_
  rintro e w2 ⟨v2, rfl, ho2, hg2⟩
  have E2 := Lib.hid (E1.out.trans (hg2.below O1.out (by omega)))
  have hlt2 : b < w2.heap.size := Nat.lt_of_lt_of_le hlt1 hg2.size
  have KC2 := Lib.hid fun j v h => hg2.cell (a := ⟨b, j, none⟩) hlt1 hv1 (KC1.out j v h)
  have hv2 : some b ≠ v2.ownBlock := fun h => by
    rcases hg2.new b h.symm with h2 | h2
    · exact hv1 h2.symm
    · omega
  have O2 := Lib.hid (show w2.ownsRow b 5 1 v2 (nb 8 n ++ nb 2 0).length (bs (nb 8 n ++ nb 2 0)) from ho2)
  clear ho2 hg2 H1 KC1 hv1 hlt1 E1 O1 k1
  have k2 := KC2.out 2 _ rfl
  have H2 := Lib.hid (list0_Holder b v2 (nb 8 n ++ nb 2 0) w2 O2.out (by omega) (by simp [nb_length]))
  go_wp2_with fail
  refine H2.out.mono ?_
  rintro e w3 ⟨v3, rfl, ho3, hg3⟩
  have E3 := Lib.hid (E2.out.trans (hg3.below O2.out (by omega)))
  have hlt3 : b < w3.heap.size := Nat.lt_of_lt_of_le hlt2 hg3.size
  have KC3 := Lib.hid fun j v h => hg3.cell (a := ⟨b, j, none⟩) hlt2 hv2 (KC2.out j v h)
  have hv3 : some b ≠ v3.ownBlock := fun h => by
    rcases hg3.new b h.symm with h2 | h2
    · exact hv2 h2.symm
    · omega
  have O3 := Lib.hid (show w3.ownsRow b 5 1 v3 (nb 8 n ++ nb 2 0 ++ nb 2 0).length (bs (nb 8 n ++ nb 2 0 ++ nb 2 0)) from ho3)
  clear ho3 hg3 H2 KC2 hv2 hlt2 E2 O2 k2
  have k3 := KC3.out 3 _ rfl
  have H3 := Lib.hid (list0_Sweep b v3 (nb 8 n ++ nb 2 0 ++ nb 2 0) w3 O3.out (by omega) (by simp [nb_length]))
  go_wp2_with fail
  refine H3.out.mono ?_
  rintro e w4 ⟨v4, rfl, ho4, hg4⟩
  have E4 := Lib.hid (E3.out.trans (hg4.below O3.out (by omega)))
  have hlt4 : b < w4.heap.size := Nat.lt_of_lt_of_le hlt3 hg4.size
  have KC4 := Lib.hid fun j v h => hg4.cell (a := ⟨b, j, none⟩) hlt3 hv3 (KC3.out j v h)
  have hv4 : some b ≠ v4.ownBlock := fun h => by
    rcases hg4.new b h.symm with h2 | h2
    · exact hv3 h2.symm
    · omega
  have O4 := Lib.hid (show w4.ownsRow b 5 1 v4 (nb 8 n ++ nb 2 0 ++ nb 2 0 ++ nb 2 0).length (bs (nb 8 n ++ nb 2 0 ++ nb 2 0 ++ nb 2 0)) from ho4)
  clear ho4 hg4 H3 KC3 hv3 hlt3 E3 O3 k3
  have k4 := KC4.out 4 _ rfl
  have H4 := Lib.hid (list0_Known b v4 (nb 8 n ++ nb 2 0 ++ nb 2 0 ++ nb 2 0) w4 O4.out (by omega) (by simp [nb_length]))
  go_wp2_with fail
  refine H4.out.mono ?_
  rintro e w5 ⟨v5, rfl, ho5, hg5⟩
  have E5 := Lib.hid (E4.out.trans (hg5.below O4.out (by omega)))
  have hlt5 : b < w5.heap.size := Nat.lt_of_lt_of_le hlt4 hg5.size
  have KC5 := Lib.hid fun j v h => hg5.cell (a := ⟨b, j, none⟩) hlt4 hv4 (KC4.out j v h)
  have hv5 : some b ≠ v5.ownBlock := fun h => by
    rcases hg5.new b h.symm with h2 | h2
    · exact hv4 h2.symm
    · omega
  have O5 := Lib.hid (show w5.ownsRow b 5 1 v5 (nb 8 n ++ nb 2 0 ++ nb 2 0 ++ nb 2 0 ++ nb 2 0).length (bs (nb 8 n ++ nb 2 0 ++ nb 2 0 ++ nb 2 0 ++ nb 2 0)) from ho5)
  clear ho5 hg5 H4 KC4 hv4 hlt4 E4 O4 k4
  have k5 := KC5.out 5 _ rfl
  have H5 := Lib.hid (list0_Probe b v5 (nb 8 n ++ nb 2 0 ++ nb 2 0 ++ nb 2 0 ++ nb 2 0) w5 O5.out (by omega) (by simp [nb_length]))
  go_wp2_with fail
  refine H5.out.mono ?_
  rintro e w6 ⟨v6, rfl, ho6, hg6⟩
  have E6 := Lib.hid (E5.out.trans (hg6.below O5.out (by omega)))
  have hlt6 : b < w6.heap.size := Nat.lt_of_lt_of_le hlt5 hg6.size
  have KC6 := Lib.hid fun j v h => hg6.cell (a := ⟨b, j, none⟩) hlt5 hv5 (KC5.out j v h)
  have hv6 : some b ≠ v6.ownBlock := fun h => by
    rcases hg6.new b h.symm with h2 | h2
    · exact hv5 h2.symm
    · omega
  have O6 := Lib.hid (show w6.ownsRow b 5 1 v6 (nb 8 n ++ nb 2 0 ++ nb 2 0 ++ nb 2 0 ++ nb 2 0 ++ nb 2 0).length (bs (nb 8 n ++ nb 2 0 ++ nb 2 0 ++ nb 2 0 ++ nb 2 0 ++ nb 2 0)) from ho6)
  clear ho6 hg6 H5 KC5 hv5 hlt5 E5 O5 k5
  have k6 := KC6.out 6 _ rfl
  have H6 := Lib.hid (list0_Case b v6 (nb 8 n ++ nb 2 0 ++ nb 2 0 ++ nb 2 0 ++ nb 2 0 ++ nb 2 0) w6 O6.out (by omega) (by simp [nb_length]))
  go_wp2_with fail
  refine H6.out.mono ?_
  rintro e w7 ⟨v7, rfl, ho7, hg7⟩
  have E7 := Lib.hid (E6.out.trans (hg7.below O6.out (by omega)))
  have hlt7 : b < w7.heap.size := Nat.lt_of_lt_of_le hlt6 hg7.size
  have KC7 := Lib.hid fun j v h => hg7.cell (a := ⟨b, j, none⟩) hlt6 hv6 (KC6.out j v h)
  have hv7 : some b ≠ v7.ownBlock := fun h => by
    rcases hg7.new b h.symm with h2 | h2
    · exact hv6 h2.symm
    · omega
  have O7 := Lib.hid (show w7.ownsRow b 5 1 v7 (nb 8 n ++ nb 2 0 ++ nb 2 0 ++ nb 2 0 ++ nb 2 0 ++ nb 2 0 ++ nb 2 0).length (bs (nb 8 n ++ nb 2 0 ++ nb 2 0 ++ nb 2 0 ++ nb 2 0 ++ nb 2 0 ++ nb 2 0)) from ho7)
  clear ho7 hg7 H6 KC6 hv6 hlt6 E6 O6 k6
  go_wp2_with fail
  go_ret
  rw [hb]
  exact ⟨_, rfl, O7.out, E7.out⟩
set_option maxRecDepth 100000 in
set_option maxHeartbeats 4000000 in
theorem read0_Holder (x : Rs) (b : Nat) (w : World) (H : Rd w b x) (h0 : vl (tkP 2 x) = 0) :
    Calls Try.prog 67 #[.pointer (some ⟨b, 0, none⟩), .func (.func 50) #[] #[]] w fun e w' => e = .returned (.slice none 0 0) ∧ Rd w' b (tkS 2 x) ∧ Ob b w w' := by
  have H1 := Lib.hid (rnumber_any x 2 b w H (by omega))
  rw [h0] at H1
  clear H h0
  go_enter Try.func67, Try.ntmps67
  go_wp2_with fail
  refine H1.out.mono ?_
  rintro e w1 ⟨rfl, hb⟩
  have E1 := Lib.hid hb
  clear hb H1
  go_wp2_with fail
  go_loopw [5, 8] (fun l i wr => l = .slice none 0 0 ∧ i = .int .i64 0 ∧ wr = w1) (fun _ _ _ => 0)
  case atStart => exact ⟨rfl, rfl, rfl⟩
  case round =>
    obtain ⟨rfl, rfl, rfl⟩ := hrel
    go_wp2_with fail
    go_ret
    exact ⟨rfl, E1.out⟩
set_option maxRecDepth 100000 in
set_option maxHeartbeats 4000000 in
theorem read0_Sweep (x : Rs) (b : Nat) (w : World) (H : Rd w b x) (h0 : vl (tkP 2 x) = 0) :
    Calls Try.prog 68 #[.pointer (some ⟨b, 0, none⟩), .func (.func 69) #[] #[]] w fun e w' => e = .returned (.slice none 0 0) ∧ Rd w' b (tkS 2 x) ∧ Ob b w w' := by
  have H1 := Lib.hid (rnumber_any x 2 b w H (by omega))
  rw [h0] at H1
  clear H h0
  go_enter Try.func68, Try.ntmps68
  go_wp2_with fail
  refine H1.out.mono ?_
  rintro e w1 ⟨rfl, hb⟩
  have E1 := Lib.hid hb
  clear hb H1
  go_wp2_with fail
  go_loopw [5, 8] (fun l i wr => l = .slice none 0 0 ∧ i = .int .i64 0 ∧ wr = w1) (fun _ _ _ => 0)
  case atStart => exact ⟨rfl, rfl, rfl⟩
  case round =>
    obtain ⟨rfl, rfl, rfl⟩ := hrel
    go_wp2_with fail
    go_ret
    exact ⟨rfl, E1.out⟩
set_option maxRecDepth 100000 in
set_option maxHeartbeats 4000000 in
theorem read0_Known (x : Rs) (b : Nat) (w : World) (H : Rd w b x) (h0 : vl (tkP 2 x) = 0) :
    Calls Try.prog 70 #[.pointer (some ⟨b, 0, none⟩), .func (.func 71) #[] #[]] w fun e w' => e = .returned (.slice none 0 0) ∧ Rd w' b (tkS 2 x) ∧ Ob b w w' := by
  have H1 := Lib.hid (rnumber_any x 2 b w H (by omega))
  rw [h0] at H1
  clear H h0
  go_enter Try.func70, Try.ntmps70
  go_wp2_with fail
  refine H1.out.mono ?_
  rintro e w1 ⟨rfl, hb⟩
  have E1 := Lib.hid hb
  clear hb H1
  go_wp2_with fail
  go_loopw [5, 8] (fun l i wr => l = .slice none 0 0 ∧ i = .int .i64 0 ∧ wr = w1) (fun _ _ _ => 0)
  case atStart => exact ⟨rfl, rfl, rfl⟩
  case round =>
    obtain ⟨rfl, rfl, rfl⟩ := hrel
    go_wp2_with fail
    go_ret
    exact ⟨rfl, E1.out⟩
set_option maxRecDepth 100000 in
set_option maxHeartbeats 4000000 in
theorem read0_Probe (x : Rs) (b : Nat) (w : World) (H : Rd w b x) (h0 : vl (tkP 2 x) = 0) :
    Calls Try.prog 72 #[.pointer (some ⟨b, 0, none⟩), .func (.func 73) #[] #[]] w fun e w' => e = .returned (.slice none 0 0) ∧ Rd w' b (tkS 2 x) ∧ Ob b w w' := by
  have H1 := Lib.hid (rnumber_any x 2 b w H (by omega))
  rw [h0] at H1
  clear H h0
  go_enter Try.func72, Try.ntmps72
  go_wp2_with fail
  refine H1.out.mono ?_
  rintro e w1 ⟨rfl, hb⟩
  have E1 := Lib.hid hb
  clear hb H1
  go_wp2_with fail
  go_loopw [5, 8] (fun l i wr => l = .slice none 0 0 ∧ i = .int .i64 0 ∧ wr = w1) (fun _ _ _ => 0)
  case atStart => exact ⟨rfl, rfl, rfl⟩
  case round =>
    obtain ⟨rfl, rfl, rfl⟩ := hrel
    go_wp2_with fail
    go_ret
    exact ⟨rfl, E1.out⟩
set_option maxRecDepth 100000 in
set_option maxHeartbeats 4000000 in
theorem read0_Case (x : Rs) (b : Nat) (w : World) (H : Rd w b x) (h0 : vl (tkP 2 x) = 0) :
    Calls Try.prog 74 #[.pointer (some ⟨b, 0, none⟩), .func (.func 75) #[] #[]] w fun e w' => e = .returned (.slice none 0 0) ∧ Rd w' b (tkS 2 x) ∧ Ob b w w' := by
  have H1 := Lib.hid (rnumber_any x 2 b w H (by omega))
  rw [h0] at H1
  clear H h0
  go_enter Try.func74, Try.ntmps74
  go_wp2_with fail
  refine H1.out.mono ?_
  rintro e w1 ⟨rfl, hb⟩
  have E1 := Lib.hid hb
  clear hb H1
  go_wp2_with fail
  go_loopw [5, 8] (fun l i wr => l = .slice none 0 0 ∧ i = .int .i64 0 ∧ wr = w1) (fun _ _ _ => 0)
  case atStart => exact ⟨rfl, rfl, rfl⟩
  case round =>
    obtain ⟨rfl, rfl, rfl⟩ := hrel
    go_wp2_with fail
    go_ret
    exact ⟨rfl, E1.out⟩
end Go.Proofs.Ytbjlklkmcpnemaa
