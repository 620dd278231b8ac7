/-
  Contracts of package sum's inner functions (carried, shifted, wordAt) and of Check: what each returns; nothing in memory is touched. Conditions: numbers have their bits, an index is within the row, and a row has at most 2^47 bytes.
-/
import Derived.Test.YtnpmdhcebfpliaaProg
import Derived.Test.YtnpmdhcebfpliaaMath
import Derived.WalkKit
import Derived.WalkLawsBesides
import Derived.BigQuiet
import Derived.Deep.QuietTactic
import Derived.Lib.Hide
import Derived.Lib.MinMax
namespace Go.Proofs.Ytnpmdhcebfpliaa
open Go.RowKit
theorem ret_bool {a b : Bool} (h : a = b) : Ending.returned (.bool a) = .returned (.bool b) := by rw [h]
theorem ret_int {k : IntKind} {a b : Int} (h : a = b) : Ending.returned (.int k a) = .returned (.int k b) := by rw [h]

theorem carried_any (t : Nat) (w : World) (h : t ≤ 131070) : Calls Try.prog 15 #[.int .u32 t] w fun e w' => e = .returned (.int .u32 ((t % 65536 + t / 65536 : Nat) : Int)) ∧ w = w' := by
  have E : bits .and .u32 (t : Int) 65535 = ((t % 65536 : Nat) : Int) := by rw [← nat_mask16]; exact u32_and_nat t 65535 (by omega) (by omega)
  go_enter Try.func15, Try.ntmps15
  go_wp2
  go_ret
  exact ⟨ret_int (by omega), rfl⟩

theorem shifted_any (n : Nat) (w : World) (h : n < 4294967296) : Calls Try.prog 17 #[.int .u32 n] w fun e w' => e = .returned (.int .u32 (sts 8 n : Nat)) ∧ w = w' := by
  go_enter Try.func17, Try.ntmps17
  go_wp2
  go_loop [0, 4] (fun r i => ∃ k : Nat, k ≤ 8 ∧ i = .int .i64 k ∧ r = .int .u32 (sts k n : Nat)) (fun _ i => 8 - (intOf i).toNat)
  case atStart => exact ⟨0, by omega, rfl, rfl⟩
  case round =>
    obtain ⟨k, hk, rfl, rfl⟩ := hrel
    have HR := Lib.hid (show sts (k + 1) n = st (sts k n) from rfl)
    have hr := sts_lt k h
    by_cases hlt : k < 8
    · generalize sts k n = r at HR hr
      by_cases hb : r % 2 = 1
      · have E : bits .and .u32 (r : Int) 1 = 1 := by rw [show (1 : Int) = ((1 : Nat) : Int) from rfl, u32_and_nat r 1 (by omega) (by omega), nat_mask1, hb]
        have X := Lib.hid (show bits .xor .u32 ((r : Int) / 2) 2197175160 = ((st r : Nat) : Int) by rw [st, if_pos hb]; exact u32_xor_nat (r / 2) 2197175160 (by omega) (by omega))
        clear hb
        go_wp2
        go_round
        case rel => exact ⟨k + 1, by omega, by go_num, by rw [HR.out, X.out]⟩
        case measure => simp [intOf]; omega
      · have E : bits .and .u32 (r : Int) 1 = 0 := by rw [show (1 : Int) = ((1 : Nat) : Int) from rfl, u32_and_nat r 1 (by omega) (by omega), nat_mask1, show r % 2 = 0 by omega]; rfl
        have X := Lib.hid (show (r : Int) / 2 = ((st r : Nat) : Int) by rw [st, if_neg hb]; rfl)
        clear hb
        go_wp2
        go_round
        case rel => exact ⟨k + 1, by omega, by go_num, by rw [HR.out, X.out]⟩
        case measure => simp [intOf]; omega
    · obtain rfl : k = 8 := by omega
      go_wp2
      go_ret
      exact ⟨rfl, rfl⟩

/-- The bytes that a slice's value has, wherever they lie. -/
def Rd (w : World) (A : Option Addr) (zs : List Nat) : Prop :=
  zs.length ≤ 140737488355328 ∧ Bs zs ∧ ∀ k, k < zs.length → ∃ x, A = some x ∧ w.cell? (x.add k) = some (.int .u8 ((zs.getD k 0 : Nat) : Int))

theorem add_succ (x : Addr) (k : Nat) : x.add (k + 1) = { block := x.block, off := x.off + (k + 1) } := by simp [Addr.add]
theorem getD_past {zs : List Nat} {k : Nat} (h : zs.length ≤ k) : zs.getD k 0 = 0 := by rw [List.getD_eq_getElem?_getD, List.getElem?_eq_none h]; rfl

theorem wordAt_any (A : Option Addr) (zs : List Nat) (c k : Nat) (w : World) (h : Rd w A zs) (hk : k < zs.length) :
    Calls Try.prog 16 #[.slice A zs.length c, .int .i64 k] w fun e w' => e = .returned (.int .u16 ((256 * zs.getD k 0 + zs.getD (k + 1) 0 : Nat) : Int)) ∧ w = w' := by
  obtain ⟨hl, hb, hc⟩ := h
  obtain ⟨x, rfl, h1⟩ := hc k hk
  have b1 := hb k
  have b2 := hb (k + 1)
  by_cases hn : k + 1 < zs.length
  · obtain ⟨y, hy, h2⟩ := hc (k + 1) hn
    obtain rfl : x = y := by injection hy
    rw [add_succ] at h2
    clear hy hc hb
    generalize zs.getD k 0 = a at *
    generalize zs.getD (k + 1) 0 = b at *
    generalize zs.length = n at *
    have X := Lib.hid (show bits .or .u16 ((a : Int) * 256) (b : Int) = ((256 * a + b : Nat) : Int) by
      rw [show (a : Int) * 256 = ((256 * a : Nat) : Int) by omega, u16_or_nat (256 * a) b (by omega) (by omega), nat_join 8 _ _ (by omega) (by omega)])
    go_enter Try.func16, Try.ntmps16
    go_wp2
    go_ret
    exact ⟨ret_int X.out, rfl⟩
  · rw [getD_past (k := k + 1) (by omega)]
    clear hc hb b2
    generalize zs.getD k 0 = a at *
    generalize zs.length = n at *
    go_enter Try.func16, Try.ntmps16
    go_wp2
    go_ret
    exact ⟨ret_int (by omega), rfl⟩

theorem check_any (A : Option Addr) (zs : List Nat) (c : Nat) (w : World) (h : Rd w A zs) :
    Calls Try.prog 13 #[.slice A zs.length c] w fun e w' => e = .returned (.int .u32 (chk zs : Nat)) ∧ w = w' := by
  obtain ⟨hl, hb, hc⟩ := h
  have HB := Lib.hid hb
  have HC := Lib.hid hc
  clear hb hc
  have C := Lib.hid fun n W h => shifted_any n W h
  go_enter Try.func13, Try.ntmps13
  go_wp2
  go_loop [3, 8] (fun r i => ∃ k : Nat, k ≤ zs.length ∧ i = .int .i64 k ∧ r = .int .u32 (reg zs k : Nat)) (fun _ i => zs.length - (intOf i).toNat)
  case atStart => exact ⟨0, by omega, rfl, rfl⟩
  case round =>
    obtain ⟨k, hk, rfl, rfl⟩ := hrel
    have hr := reg_lt HB.out k
    by_cases hlt : k < zs.length
    · obtain ⟨x, rfl, h1⟩ := HC.out k hlt
      have b1 := HB.out k
      have HR := Lib.hid (show reg zs (k + 1) = sts 8 (reg zs k ^^^ zs.getD k 0) from rfl)
      have X : bits .xor .u32 (reg zs k : Int) (zs.getD k 0 : Int) = ((reg zs k ^^^ zs.getD k 0 : Nat) : Int) := u32_xor_nat _ _ hr (by omega)
      have hx := xor_lt hr (show zs.getD k 0 < 4294967296 by omega)
      generalize zs.getD k 0 = a at *
      generalize reg zs k = r at *
      go_wp2_with fail
      refine (C.out _ _ hx).mono ?_
      rintro e w1 ⟨rfl, rfl⟩
      go_wp2_with fail
      go_round
      case rel => exact ⟨k + 1, by omega, by go_num, by rw [HR.out]⟩
      case measure => simp [intOf]; omega
    · obtain rfl : k = zs.length := by omega
      have X := Lib.hid (show bits .xor .u32 IntKind.u32.max (reg zs zs.length : Int) = ((chk zs : Nat) : Int) by
        rw [chk, Nat.xor_comm]; exact u32_xor_nat 4294967295 _ (by omega) hr)
      go_wp2
      go_ret
      exact ⟨ret_int X.out, rfl⟩

/-- The statements' own sum of 32 bits is the same. -/
theorem lawCheck_any (A : Option Addr) (zs : List Nat) (c : Nat) (w : World) (h : Rd w A zs) :
    Calls Try.prog 14 #[.slice A zs.length c] w fun e w' => e = .returned (.int .u32 (chk zs : Nat)) ∧ w = w' := by
  obtain ⟨hl, hb, hc⟩ := h
  have HB := Lib.hid hb
  have HC := Lib.hid hc
  clear hb hc
  go_enter Try.func14, Try.ntmps14
  go_wp2
  go_loop [3, 10] (fun r i => ∃ k : Nat, k ≤ zs.length ∧ i = .int .i64 k ∧ r = .int .u32 (reg zs k : Nat)) (fun _ i => zs.length - (intOf i).toNat)
  case atStart => exact ⟨0, by omega, rfl, rfl⟩
  case round =>
    obtain ⟨k, hk, rfl, rfl⟩ := hrel
    have hr := reg_lt HB.out k
    by_cases hlt : k < zs.length
    · obtain ⟨x, rfl, h1⟩ := HC.out k hlt
      have b1 := HB.out k
      have HR := Lib.hid (show reg zs (k + 1) = sts 8 ((reg zs k ^^^ zs.getD k 0) % 256) ^^^ (reg zs k / 256) by rw [reg, sts_eight, xor_high _ _ b1])
      have X : bits .xor .u32 (reg zs k : Int) (zs.getD k 0 : Int) = ((reg zs k ^^^ zs.getD k 0 : Nat) : Int) := u32_xor_nat _ _ hr (by omega)
      have hx := xor_lt hr (show zs.getD k 0 < 4294967296 by omega)
      generalize zs.getD k 0 = a at *
      generalize reg zs k = r at *
      generalize r ^^^ a = q at *
      have Y : bits .and .u32 (q : Int) 255 = ((q % 256 : Nat) : Int) := by rw [← nat_mask8]; exact u32_and_nat q 255 (by omega) (by omega)
      go_wp2_with fail
      clear X Y
      have hq : q % 256 < 4294967296 := by omega
      have HQ := Lib.hid (show ((q : Int) % 256) = ((q % 256 : Nat) : Int) by omega)
      go_loop [6, 7] (fun t i => ∃ m : Nat, m ≤ 8 ∧ i = .int .i64 m ∧ t = .int .u32 (sts m (q % 256) : Nat)) (fun _ i => 8 - (intOf i).toNat)
      case atStart => exact ⟨0, by omega, rfl, by first | rfl | (rw [HQ.out]; rfl)⟩
      case round =>
        obtain ⟨m, hm, rfl, rfl⟩ := hrel
        have hs := sts_lt m hq
        have HS := Lib.hid (show sts (m + 1) (q % 256) = st (sts m (q % 256)) from rfl)
        by_cases hmt : m < 8
        · generalize sts m (q % 256) = t at *
          by_cases hb : t % 2 = 1
          · have E : (t : Int) % 2 = 1 := by omega
            have X := Lib.hid (show bits .xor .u32 ((t : Int) / 2) 2197175160 = ((st t : Nat) : Int) by rw [st, if_pos hb]; exact u32_xor_nat (t / 2) 2197175160 (by omega) (by omega))
            clear hb
            go_wp2
            go_round
            case rel => exact ⟨m + 1, by omega, by go_num, by rw [HS.out, X.out]⟩
            case measure => simp [intOf]; omega
          · have E : (t : Int) % 2 = 0 := by omega
            have X := Lib.hid (show (t : Int) / 2 = ((st t : Nat) : Int) by rw [st, if_neg hb]; rfl)
            clear hb
            go_wp2
            go_round
            case rel => exact ⟨m + 1, by omega, by go_num, by rw [HS.out, X.out]⟩
            case measure => simp [intOf]; omega
        · obtain rfl : m = 8 := by omega
          clear HS
          generalize sts 8 (q % 256) = t at *
          have X := Lib.hid (show bits .xor .u32 (t : Int) ((r : Int) / 256) = ((t ^^^ (r / 256) : Nat) : Int) from u32_xor_nat t (r / 256) hs (by omega))
          go_wp2
          go_round
          case rel => exact ⟨k + 1, by omega, by go_num, by rw [HR.out, X.out]⟩
          case measure => simp [intOf]; omega
    · obtain rfl : k = zs.length := by omega
      have X := Lib.hid (show bits .xor .u32 (reg zs zs.length : Int) 4294967295 = ((chk zs : Nat) : Int) by
        rw [chk]; exact u32_xor_nat _ 4294967295 hr (by omega))
      go_wp2
      go_ret
      exact ⟨ret_int X.out, rfl⟩
end Go.Proofs.Ytnpmdhcebfpliaa
