/-
  WireTurned's walk, and WireSums's: for every packet, and two numbers, they return true, and nothing that was in memory is touched. Conditions: the numbers have their bits.
-/
import Derived.Test.YtgdbkjiifliobaaAwake
namespace Go.Proofs.Ytgdbkjiifliobaa
open Go.RowKit

set_option maxRecDepth 100000 in
theorem wireTurned_walk (p : Pk) (x y : Int) (w : World) (hp : p.Ok) (hx : 0 ≤ x ∧ x < 256) (hy : 0 ≤ y ∧ y < 256) :
    Calls Try.prog 6 #[pv p, .int .u8 x, .int .u8 y] w fun e w' => e = .returned (.bool true) ∧ Below w.heap.size w w' := by
  obtain ⟨x, rfl⟩ := Int.eq_ofNat_of_zero_le hx.1
  obtain ⟨y, rfl⟩ := Int.eq_ofNat_of_zero_le hy.1
  have hx := hx.2
  have hy := hy.2
  have CW := Lib.hid fun W => awake_any W
  have CE := Lib.hid fun W => echo_any p W hp
  have P0 := Lib.hid (pb_box w p)
  have D0 := Lib.hid ((Below.refl w.heap.size w).alloc (Nat.le_refl _) (Px p))
  clear hp
  unfold pv
  go_enter Try.func6, Try.ntmps6
  go_wp2_with fail
  refine (CW.out _).mono ?_
  rintro e w1 ⟨rfl, b1⟩
  have P1 := Lib.hid (P0.out.keep b1 P0.out.lt)
  have D1 := Lib.hid (D0.out.trans (b1.mono D0.out.size))
  clear b1 P0 D0
  go_wp2_with (refine at_load27 _ _ p P1.out.1 rfl rfl rfl ?_)
  refine (CE.out _).mono ?_
  rintro e w2 ⟨rfl, o2, b2⟩
  have D2 := Lib.hid (D1.out.trans (b2.mono D1.out.size))
  have hz : w.heap.size ≤ w1.heap.size + 1 := by have := D1.out.size; omega
  have O2 := Lib.hid o2
  clear o2 b2 P1 D1
  generalize w1.heap.size + 1 = g at *
  obtain ⟨k, hk⟩ : ∃ k, k = x % 32 := ⟨_, rfl⟩
  have hk1 : k < 32 := by omega
  have E : (x : Int) % 32 = (k : Int) := by omega
  have hc := O2.out.cell hk1
  have hf := O2.out.frozen k
  have hv := O2.out.2.1 k
  obtain ⟨v, hvv⟩ : ∃ v, v = ((ecb p).getD k 0 + y) % 256 := ⟨_, rfl⟩
  have hv1 : v < 256 := by omega
  have O3 := Lib.hid (O2.out.set hk1 hv1)
  have D3 := Lib.hid (D2.out.setCell (p := ⟨g, k, none⟩) hz (.int .u8 (v : Int)))
  have TT := Lib.hid (ecb_turned p O2.out.2.1 hk1 hv1)
  have HV := Lib.hid hvv
  clear hk hvv O2 D2
  have CR := Lib.hid fun W (h : Rd W (some ⟨g, 0, none⟩) ((ecb p).set k v)) => readEcho_any (some ⟨g, 0, none⟩) ((ecb p).set k v) 32 W h (by rw [List.length_set, ecb_length]; exact Nat.le_refl _)
  rw [List.length_set, ecb_length] at CR
  have FF := Lib.hid (show (red ((ecb p).set k v) = 0) ↔ y = 0 from TT.out.trans (by have := HV.out; omega))
  clear TT
  generalize (ecb p).set k v = zs at *
  generalize (ecb p).getD k 0 = r at *
  generalize rpk zs = q at *
  generalize red zs = m at *
  by_cases hw : r + y < 256
  · have EV : (r : Int) + (y : Int) = (v : Int) := by have := HV.out; omega
    go_upto_region 7 with fail
    clear hc hf E EV
    generalize w2.setCell ⟨g, k, none⟩ (.int .u8 (v : Int)) = w3 at *
    go_wp2_with fail
    refine (CR.out _ O3.out.rd).mono ?_
    rintro e w4 ⟨rfl, b4⟩
    have D4 := Lib.hid (D3.out.trans (b4.mono D3.out.size))
    have PB := Lib.hid (pb_box w4 zp)
    have D5 := Lib.hid (D4.out.alloc D4.out.size (Px zp))
    go_wp2_with (refine at_store27 _ _ _ zp q PB.out rfl rfl rfl rfl ?_; intro w5 P5 B5)
    go_ret
    exact ⟨ret_bool (by rw [beq_iff_eq, Bool.eq_iff_iff, beq_iff_eq, beq_iff_eq]; have := FF.out; omega), D5.out.trans (B5.out _ D4.out.size)⟩
  · have EV : ((r : Int) + (y : Int)) % 256 = (v : Int) := by have := HV.out; omega
    go_upto_region 7 with fail
    clear hc hf E EV
    generalize w2.setCell ⟨g, k, none⟩ (.int .u8 (v : Int)) = w3 at *
    go_wp2_with fail
    refine (CR.out _ O3.out.rd).mono ?_
    rintro e w4 ⟨rfl, b4⟩
    have D4 := Lib.hid (D3.out.trans (b4.mono D3.out.size))
    have PB := Lib.hid (pb_box w4 zp)
    have D5 := Lib.hid (D4.out.alloc D4.out.size (Px zp))
    go_wp2_with (refine at_store27 _ _ _ zp q PB.out rfl rfl rfl rfl ?_; intro w5 P5 B5)
    go_ret
    exact ⟨ret_bool (by rw [beq_iff_eq, Bool.eq_iff_iff, beq_iff_eq, beq_iff_eq]; have := FF.out; omega), D5.out.trans (B5.out _ D4.out.size)⟩

set_option maxRecDepth 100000 in
theorem wireSums_walk (p : Pk) (w : World) (hp : p.Ok) :
    Calls Try.prog 8 #[pv p] w fun e w' => e = .returned (.bool true) ∧ Below w.heap.size w w' := by
  have CW := Lib.hid fun W => awake_any W
  have CE := Lib.hid fun W => echo_any p W hp
  have CA := Lib.hid fun W => arp_any p W hp
  have P0 := Lib.hid (pb_box w p)
  have D0 := Lib.hid ((Below.refl w.heap.size w).alloc (Nat.le_refl _) (Px p))
  clear hp
  unfold pv
  go_enter Try.func8, Try.ntmps8
  go_wp2_with fail
  refine (CW.out _).mono ?_
  rintro e w1 ⟨rfl, b1⟩
  have P1 := Lib.hid (P0.out.keep b1 P0.out.lt)
  have D1 := Lib.hid (D0.out.trans (b1.mono D0.out.size))
  clear b1 P0 D0
  go_wp2_with (refine at_load27 _ _ p P1.out.1 rfl rfl rfl ?_)
  refine (CE.out _).mono ?_
  rintro e w2 ⟨rfl, o2, b2⟩
  have P2 := Lib.hid (P1.out.keep b2 P1.out.lt)
  have D2 := Lib.hid (D1.out.trans (b2.mono D1.out.size))
  have O2 := Lib.hid o2
  clear o2 b2 P1 D1
  generalize w1.heap.size + 1 = g at *
  have S1 := Lib.hid (sealed_any _ ((ecb p).take 20) 32 _ (O2.out.rd.take 20))
  have S2 := Lib.hid (sealed_any _ ((ecb p).drop 20) 12 _ (O2.out.rd.mid 20))
  rw [ecb_take, List.length_take, ecb_length, decide_eq_true rfl] at S1
  rw [ecb_drop, List.length_drop, ecb_length, decide_eq_true rfl] at S2
  go_wp2_with fail
  refine S1.out.mono ?_
  rintro e w3 ⟨rfl, rfl⟩
  go_wp2_with fail
  refine S2.out.mono ?_
  rintro e w3 ⟨rfl, rfl⟩
  go_wp2_with (refine at_load27g _ _ p P2.out.1 (by kernel_rfl) rfl rfl ?_)
  refine (CA.out _).mono ?_
  rintro e w3 ⟨rfl, o3, b3⟩
  have D3 := Lib.hid (D2.out.trans (b3.mono D2.out.size))
  clear o3 b3
  go_wp2_with fail
  go_ret
  exact ⟨rfl, D3.out⟩
end Go.Proofs.Ytgdbkjiifliobaa
