/-
  Contracts of byteText, Text and ParseBlock (package addr): what each returns, and that nothing that was in memory has changed. Conditions: addresses are numbers of 32 bits; the library's table of powers of ten lies as its text lays it.
-/
import Derived.Test.YtcbknlbpdlheeaaDoorParse
import Derived.Test.YtcbknlbpdlheeaaDoorWhole
import Derived.Lib.SmallJoins
namespace Go.Proofs.YtcbknlbpdlheeaaDoor
open Go.RowKit

/-- The library's table of powers of ten lies as its text lays it. -/
def Tab (w : World) : Prop := Lib.TabIs Tryd.prog w "internal/strconv.uint64pow10" .u64 Lib.pow10Tab

theorem Tab.below {w w' : World} (h : Tab w) (hb : Below w.heap.size w w') : Tab w' :=
  Joins.tab_stays (g := 1) (by kernel_rfl) h hb (Nat.le_refl _)

/-- A number's digits. -/
def dig (n : Int) : List UInt8 := Lib.decDigits n.toNat

theorem dig_len {n : Int} (h1 : n < 1000) : (dig n).length ≤ 3 := by
  unfold dig
  rw [Lib.decDigits_length]
  by_cases h : n.toNat < 10
  · rw [Lib.nDigits_small h]; omega
  · rw [Lib.nDigits_big h]
    by_cases h2 : n.toNat / 10 < 10
    · rw [Lib.nDigits_small h2]; omega
    · rw [Lib.nDigits_big h2, Lib.nDigits_small (by omega)]; omega

theorem itoa_pos {n : Int} (h : 0 ≤ n) : Lib.itoa n = dig n := by
  unfold Lib.itoa dig; rw [if_neg (by omega)]

theorem below_grow (w : World) (k : Nat) (os : Array Obj) : Below w.heap.size w (Sort.grow (w.drewN k) os) :=
  ⟨rfl, rfl, rfl, by simp [Sort.grow, World.drewN], fun i hi => by simp [Sort.grow, World.drewN, Array.getElem?_append, hi]⟩

theorem itoa_any (n : Int) (w : World) (h0 : 0 ≤ n) (h1 : n ≤ 9223372036854775807) (ht : Tab w) :
    Calls Tryd.prog 33 #[.int .i64 n] w fun e w' => e = .returned (.string ⟨(dig n).toArray⟩) ∧ Below w.heap.size w w' :=
  (Tryd.strconv_Itoa n (by omega) h1 w ht).mono fun _ _ ⟨he, k, os, hw⟩ => ⟨by rw [he, itoa_pos h0], by rw [hw]; exact below_grow w k os⟩

theorem and255 (a : Int) (h0 : 0 ≤ a) (h1 : a < 4294967296) : bits .and .u32 a 255 = a % 256 := by
  rw [u32_and a 255 h0 h1 (by decide) (by decide)]
  rw [show (255 : Int).toNat = 2 ^ 8 - 1 from rfl, Nat.and_two_pow_sub_one_eq_mod]
  omega

theorem byteText_any (a : Int) (w : World) (h0 : 0 ≤ a) (h1 : a < 4294967296) (ht : Tab w) :
    Calls Tryd.prog 30 #[.int .u32 a] w fun e w' => e = .returned (.string ⟨(dig (a % 256)).toArray⟩) ∧ Below w.heap.size w w' := by
  have HV := Lib.hid (and255 a h0 h1)
  have hv0 : 0 ≤ bits .and .u32 a 255 := by rw [HV.out]; omega
  have hv1 : bits .and .u32 a 255 < 256 := by rw [HV.out]; omega
  have HI := Lib.hid fun W (h : Tab W) => itoa_any (a % 256) W (by omega) (by omega) h
  have HT := Lib.hid ht
  clear ht
  go_enter Tryd.func30, Tryd.ntmps30
  go_wp2_with fail
  rw [HV.out]
  refine (HI.out _ HT.out).mono ?_
  rintro e w1 ⟨rfl, hb⟩
  have HB := Lib.hid hb
  clear hb
  go_wp2_with fail
  go_ret
  exact ⟨rfl, HB.out⟩

theorem ret_str {a b : ByteArray} (h : a = b) : Ending.returned (.string a) = .returned (.string b) := by rw [h]
theorem cat (l m : List UInt8) : (⟨l.toArray⟩ : ByteArray) ++ ⟨m.toArray⟩ = ⟨(l ++ m).toArray⟩ := by
  apply ByteArray.ext; simp

/-- An address's text. -/
def textL (a : Int) : List UInt8 := dig (a / 16777216) ++ 46 :: (dig (a / 65536 % 256) ++ 46 :: (dig (a / 256 % 256) ++ 46 :: dig (a % 256)))

set_option maxHeartbeats 1000000 in
theorem text_any (a : Int) (w : World) (h0 : 0 ≤ a) (h1 : a < 4294967296) (ht : Tab w) :
    Calls Tryd.prog 12 #[.int .u32 a] w fun e w' => e = .returned (.string ⟨(textL a).toArray⟩) ∧ Below w.heap.size w w' := by
  have H1 := Lib.hid fun W (h : Tab W) => byteText_any (a / 16777216) W (by omega) (by omega) h
  have H2 := Lib.hid fun W (h : Tab W) => byteText_any (a / 65536) W (by omega) (by omega) h
  have H3 := Lib.hid fun W (h : Tab W) => byteText_any (a / 256) W (by omega) (by omega) h
  have H4 := Lib.hid fun W (h : Tab W) => byteText_any a W h0 h1 h
  have e1 : a / 16777216 % 256 = a / 16777216 := by omega
  rw [e1] at H1
  clear e1
  have d1 := dig_len (n := a / 16777216) (by omega)
  have d2 := dig_len (n := a / 65536 % 256) (by omega)
  have d3 := dig_len (n := a / 256 % 256) (by omega)
  have d4 := dig_len (n := a % 256) (by omega)
  have HL := Lib.hid (show textL a = dig (a / 16777216) ++ 46 :: (dig (a / 65536 % 256) ++ 46 :: (dig (a / 256 % 256) ++ 46 :: dig (a % 256))) from rfl)
  generalize dig (a / 16777216) = l1 at *
  generalize dig (a / 65536 % 256) = l2 at *
  generalize dig (a / 256 % 256) = l3 at *
  generalize dig (a % 256) = l4 at *
  have HT := Lib.hid ht
  clear ht
  go_enter Tryd.func12, Tryd.ntmps12
  go_wp2_with fail
  refine (H1.out _ HT.out).mono ?_
  rintro e w1 ⟨rfl, hb1⟩
  have HB1 := Lib.hid hb1
  have HT1 := Lib.hid (HT.out.below hb1)
  clear hb1
  go_wp2_with fail
  refine (H2.out _ HT1.out).mono ?_
  rintro e w2 ⟨rfl, hb2⟩
  have HB2 := Lib.hid (HB1.out.trans (hb2.mono HB1.out.size))
  have HT2 := Lib.hid (HT1.out.below hb2)
  clear hb2
  go_wp2_with fail
  refine (H3.out _ HT2.out).mono ?_
  rintro e w3 ⟨rfl, hb3⟩
  have HB3 := Lib.hid (HB2.out.trans (hb3.mono HB2.out.size))
  have HT3 := Lib.hid (HT2.out.below hb3)
  clear hb3
  go_wp2_with fail
  refine (H4.out _ HT3.out).mono ?_
  rintro e w4 ⟨rfl, hb4⟩
  have HB4 := Lib.hid (HB3.out.trans (hb4.mono HB3.out.size))
  clear hb4
  go_wp2_with fail
  go_ret
  refine ⟨?_, HB4.out⟩
  rw [HL.out]
  exact ret_str (by rw [show (⟨#[46]⟩ : ByteArray) = ⟨[46].toArray⟩ from rfl]; simp only [cat]; simp)

/-- What ParseBlock returns. -/
def pblO (l : List UInt8) : Option (Int × Int) :=
  match parseO (cutL 47 l).1 with
  | none => none
  | some a =>
    match numO 32 (cutL 47 l).2.1 with
    | none => none
    | some b => if okB a b = true then some (a, b) else none
def pblV : Option (Int × Int) → Value
  | some (a, b) => .tuple #[.agg #[.int .u32 a, .int .i64 b], .bool true]
  | none => .tuple #[.agg #[.int .u32 0, .int .i64 0], .bool false]

theorem parseGo_bd : ∀ (r : Nat) (a : Int) (l : List UInt8) (m : Int), 0 ≤ a → parseGo r a l = some m → 0 ≤ m ∧ m < (a + 1) * 256 ^ r
  | 0, a, l, m, h0, h => by simp [parseGo] at h; simp; omega
  | r + 1, a, l, m, h0, h => by
    simp only [parseGo] at h
    split at h
    · split at h
      · rename_i n hn
        obtain ⟨n0, n1⟩ := numO_bd (by decide) hn
        obtain ⟨m0, m1⟩ := parseGo_bd r (a * 256 + n) _ m (by omega) h
        refine ⟨m0, Int.lt_of_lt_of_le m1 ?_⟩
        rw [Int.pow_succ, Int.mul_comm (256 ^ r) 256, ← Int.mul_assoc]
        exact Int.mul_le_mul_of_nonneg_right (by omega) (Int.le_of_lt (Int.pow_pos (by decide)))
      · cases h
    · cases h
theorem parseO_bd {l : List UInt8} {m : Int} (h : parseO l = some m) : 0 ≤ m ∧ m < 4294967296 := by
  have := parseGo_bd 4 0 l m (Int.le_refl _) h
  simpa using this

set_option maxHeartbeats 1000000 in
theorem parseBlock_any (s : ByteArray) (w : World) (hs : s.size ≤ maxLen) :
    Calls Tryd.prog 19 #[.string s] w fun e w' => e = .returned (pblV (pblO s.data.toList)) ∧ Below w.heap.size w w' := by
  obtain ⟨x, y, t, hx, hy, hL, HC⟩ : ∃ (x y : ByteArray) (t : Bool), x.size ≤ maxLen ∧ y.size ≤ maxLen ∧ cutL 47 s.data.toList = (x.data.toList, y.data.toList, t) ∧ ∀ W, Calls Tryd.prog 28 #[.string s, .string ⟨#[47]⟩] W fun e w' => e = .returned (.tuple #[.string x, .string y, .bool t]) ∧ Below W.heap.size W w' := by
    rcases cut_cases s 47 with ⟨hx, hL⟩ | ⟨i, hx, hi, hL⟩
    · exact ⟨s, ⟨#[]⟩, false, hs, Nat.zero_le _, hL, fun W => cut_miss s 47 W hx⟩
    · exact ⟨_, _, true, by rw [ByteArray.size_extract]; omega, by rw [ByteArray.size_extract]; omega, hL, fun W => cut_hit s 47 i W hx hi hs⟩
  have HC := Lib.hid HC
  have HP := Lib.hid fun W => parse_any x W hx
  cases hO : parseO x.data.toList with
  | none =>
    have HR := Lib.hid (show pblO s.data.toList = none by simp only [pblO, hL, hO])
    rw [hO] at HP
    clear hO hL
    go_enter Tryd.func19, Tryd.ntmps19
    go_wp2_with fail
    refine (HC.out _).mono ?_
    rintro e w1 ⟨rfl, hb1⟩
    have HB1 := Lib.hid (((Below.refl _ w).alloc (Nat.le_refl _) _).trans (hb1.mono (by simp)))
    obtain ⟨hc1, hf1⟩ := bcell hb1
    have hz1 : w.heap.size < w1.heap.size := by have := hb1.size; simp at this; omega
    clear hb1
    go_wp2_with fail
    refine (HP.out _).mono ?_
    rintro e w2 ⟨rfl, hb2⟩
    simp only [parseV]
    have HB2 := Lib.hid (HB1.out.trans (hb2.mono HB1.out.size))
    obtain ⟨hc2, hf2⟩ := bcell hb2
    have hz2 : w.heap.size < w2.heap.size := by have := hb2.size; omega
    clear hb2
    go_wp2_with fail
    exact bodyPost_ret (v := .tuple #[.agg #[.int .u32 0, .int .i64 0], .bool false]) (by simp [results, Tryd.results19, go_sem, hc1, hc2, hz1]) rfl ⟨by rw [HR.out]; rfl, set2 HB2.out (Nat.le_refl _) _ _⟩
  | some a =>
    obtain ⟨ha0, ha1⟩ := parseO_bd hO
    rw [hO] at HP
    have HN := Lib.hid fun W => number_any y 32 W hy (by decide) (by decide)
    cases hN : numO 32 y.data.toList with
    | none =>
      have HR := Lib.hid (show pblO s.data.toList = none by simp only [pblO, hL, hO, hN])
      rw [hN] at HN
      clear hO hL hN
      go_enter Tryd.func19, Tryd.ntmps19
      go_wp2_with fail
      refine (HC.out _).mono ?_
      rintro e w1 ⟨rfl, hb1⟩
      have HB1 := Lib.hid (((Below.refl _ w).alloc (Nat.le_refl _) _).trans (hb1.mono (by simp)))
      obtain ⟨hc1, hf1⟩ := bcell hb1
      have hz1 : w.heap.size < w1.heap.size := by have := hb1.size; simp at this; omega
      clear hb1
      go_wp2_with fail
      refine (HP.out _).mono ?_
      rintro e w2 ⟨rfl, hb2⟩
      simp only [parseV]
      have HB2 := Lib.hid (HB1.out.trans (hb2.mono HB1.out.size))
      obtain ⟨hc2, hf2⟩ := bcell hb2
      have hz2 : w.heap.size < w2.heap.size := by have := hb2.size; omega
      clear hb2
      go_wp2_with fail
      refine (HN.out _).mono ?_
      rintro e w3 ⟨rfl, rfl⟩
      simp only [numV]
      go_wp2_with fail
      exact bodyPost_ret (v := .tuple #[.agg #[.int .u32 0, .int .i64 0], .bool false]) (by simp [results, Tryd.results19, go_sem, hc1, hc2, hz1]) rfl ⟨by rw [HR.out]; rfl, set2 HB2.out (Nat.le_refl _) _ _⟩
    | some b =>
      rw [hN] at HN
      cases hK : okB a b
      · have HR := Lib.hid (show pblO s.data.toList = none by simp [pblO, hL, hO, hN, hK])
        have HK := Lib.hid fun W => right_no a b W ha0 ha1 hK
        clear hO hL hN hK
        go_enter Tryd.func19, Tryd.ntmps19
        go_wp2_with fail
        refine (HC.out _).mono ?_
        rintro e w1 ⟨rfl, hb1⟩
        have HB1 := Lib.hid (((Below.refl _ w).alloc (Nat.le_refl _) _).trans (hb1.mono (by simp)))
        obtain ⟨hc1, hf1⟩ := bcell hb1
        have hz1 : w.heap.size < w1.heap.size := by have := hb1.size; simp at this; omega
        clear hb1
        go_wp2_with fail
        refine (HP.out _).mono ?_
        rintro e w2 ⟨rfl, hb2⟩
        simp only [parseV]
        have HB2 := Lib.hid (HB1.out.trans (hb2.mono HB1.out.size))
        obtain ⟨hc2, hf2⟩ := bcell hb2
        have hz2 : w.heap.size < w2.heap.size := by have := hb2.size; omega
        clear hb2
        go_wp2_with fail
        refine (HN.out _).mono ?_
        rintro e w3 ⟨rfl, rfl⟩
        simp only [numV]
        go_wp2_with fail
        have hz4 : w.heap.size < w3.heap.size + 1 := by omega
        refine (HK.out _).mono ?_
        rintro e w4 ⟨rfl, hb4⟩
        have HB4 := Lib.hid ((HB2.out.alloc HB2.out.size _).trans (hb4.mono (by have := HB2.out.size; simp; omega)))
        obtain ⟨hc4, hf4⟩ := bcell hb4
        clear hb4
        go_wp2_with fail
        exact bodyPost_ret (v := .tuple #[.agg #[.int .u32 0, .int .i64 0], .bool false]) (by simp [results, Tryd.results19, go_sem, hc1, hc2, hc4, hz1, hz2, hz4]) rfl ⟨by rw [HR.out]; rfl, set2 HB4.out (Nat.le_refl _) _ _⟩
      · have HR := Lib.hid (show pblO s.data.toList = some (a, b) by simp [pblO, hL, hO, hN, hK])
        have HK := Lib.hid fun W => right_yes a b W ha0 ha1 hK
        clear hO hL hN hK
        go_enter Tryd.func19, Tryd.ntmps19
        go_wp2_with fail
        refine (HC.out _).mono ?_
        rintro e w1 ⟨rfl, hb1⟩
        have HB1 := Lib.hid (((Below.refl _ w).alloc (Nat.le_refl _) _).trans (hb1.mono (by simp)))
        obtain ⟨hc1, hf1⟩ := bcell hb1
        have hz1 : w.heap.size < w1.heap.size := by have := hb1.size; simp at this; omega
        clear hb1
        go_wp2_with fail
        refine (HP.out _).mono ?_
        rintro e w2 ⟨rfl, hb2⟩
        simp only [parseV]
        have HB2 := Lib.hid (HB1.out.trans (hb2.mono HB1.out.size))
        obtain ⟨hc2, hf2⟩ := bcell hb2
        have hz2 : w.heap.size < w2.heap.size := by have := hb2.size; omega
        clear hb2
        go_wp2_with fail
        refine (HN.out _).mono ?_
        rintro e w3 ⟨rfl, rfl⟩
        simp only [numV]
        go_wp2_with fail
        have hz4 : w.heap.size < w3.heap.size + 1 := by omega
        refine (HK.out _).mono ?_
        rintro e w4 ⟨rfl, hb4⟩
        have HB4 := Lib.hid ((HB2.out.alloc HB2.out.size _).trans (hb4.mono (by have := HB2.out.size; simp; omega)))
        obtain ⟨hc4, hf4⟩ := bcell hb4
        clear hb4
        go_wp2_with fail
        exact bodyPost_ret (v := .tuple #[.agg #[.int .u32 a, .int .i64 b], .bool true]) (by simp [results, Tryd.results19, go_sem, hc1, hc2, hc4, hz1, hz2, hz4]) rfl ⟨by rw [HR.out]; rfl, set2 HB4.out (Nat.le_refl _) _ _⟩
end Go.Proofs.YtcbknlbpdlheeaaDoor
