/-
  The walk of LinesStation: called at any address, station and tick it returns true and changes nothing that was in memory. Conditions: bytes are bytes, numbers are of 32 bits, and the library's variables lie as their texts lay them (Env).
-/
import Derived.Test.YthpgmlijfcfddaaGreatDoorEr
import Derived.Test.YthpgmlijfcfddaaGreatDoorAw
set_option linter.unusedSimpArgs false
set_option linter.unusedVariables false
namespace Go.Proofs.YthpgmlijfcfddaaGreatDoor
open Go.RowKit

/-- A station's text. -/
def mt (b0 b1 b2 b3 b4 b5 : Int) : ByteArray := Mc.strOf (Mc.txg 58 (fun _ => false) [b0, b1, b2, b3, b4, b5] 6)
theorem txg_48 {b0 b1 b2 b3 b4 b5 : Int} (h : Mc.Six b0 b1 b2 b3 b4 b5) : ∀ k, ∀ n ∈ Mc.txg 58 (fun _ => false) [b0, b1, b2, b3, b4, b5] k, 48 ≤ n ∧ n < 256 := by
  have hx : ∀ n : Int, 0 ≤ n → n < 16 → 48 ≤ Mc.hxg false n ∧ Mc.hxg false n < 256 := fun n h0 h1 => by unfold Mc.hxg; simp; split <;> omega
  have hd : ∀ k, ∀ n ∈ Mc.duog false ([b0, b1, b2, b3, b4, b5].getD k 0), 48 ≤ n ∧ n < 256 := fun k n hn => by
    have := h.getD k
    simp only [Mc.duog, List.mem_cons, List.not_mem_nil, or_false] at hn
    rcases hn with rfl | rfl
    · exact hx _ (by omega) (by omega)
    · exact hx _ (by omega) (by omega)
  intro k
  induction k using Mc.txg.induct with
  | case1 => intro n hn; cases hn
  | case2 => exact hd 0
  | case3 k ih =>
    intro n hn
    simp only [Mc.txg, List.mem_append, List.mem_singleton] at hn
    rcases hn with (hn | rfl) | hn
    · exact ih n hn
    · omega
    · exact hd (k + 1) n hn
theorem mt_not {b0 b1 b2 b3 b4 b5 : Int} (h : Mc.Six b0 b1 b2 b3 b4 b5) : (32 : UInt8) ∉ (mt b0 b1 b2 b3 b4 b5).data.toList := by
  intro hm
  unfold mt Mc.strOf at hm
  simp only [List.mem_map] at hm
  obtain ⟨n, hn, e⟩ := hm
  have h1 := txg_48 h 6 n hn
  have h2 := congrArg UInt8.toNat e
  simp at h2
  omega
theorem mt_len (b0 b1 b2 b3 b4 b5 : Int) : (mt b0 b1 b2 b3 b4 b5).data.toList.length = 17 := by
  unfold mt Mc.strOf
  simp only [List.length_map]
  rfl
theorem textL_len (a : Int) (h0 : 0 ≤ a) (h1 : a < 4294967296) : (Ad.textL a).length ≤ 15 := by
  unfold Ad.textL
  have d1 := Ad.dig_len (n := a / 16777216) (by omega)
  have d2 := Ad.dig_len (n := a / 65536 % 256) (by omega)
  have d3 := Ad.dig_len (n := a / 256 % 256) (by omega)
  have d4 := Ad.dig_len (n := a % 256) (by omega)
  simp
  omega
theorem dig_not (n : Int) : (32 : UInt8) ∉ Ad.dig n := Ad.dig_not n 32 (by decide)
theorem dig_len10 (n : Int) (h0 : 0 ≤ n) (h1 : n < 4294967296) : (Ad.dig n).length ≤ 10 := dd_len 9 n.toNat (by omega)

/-- Whether a number is no station's. -/
def bad6 (b0 b1 b2 b3 b4 b5 : Int) : Bool := Mc.eq6 b0 b1 b2 b3 b4 b5 0 0 0 0 0 0 || (b0 % 2 == 1)
theorem stO_mt {a b0 b1 b2 b3 b4 b5 : Int} (h0 : 0 ≤ a) (h1 : a < 4294967296) (h : Mc.Six b0 b1 b2 b3 b4 b5) :
    stO ⟨(Ad.textL a).toArray⟩ (mt b0 b1 b2 b3 b4 b5) = if bad6 b0 b1 b2 b3 b4 b5 = true then (zr, 3) else (⟨a, b0, b1, b2, b3, b4, b5, 0⟩, 0) := by
  have e1 : Ad.parseO (Ad.textL a) = some a := Ad.parse_text a h0 h1
  have e2 : Mc.okB (mt b0 b1 b2 b3 b4 b5) = true := Mc.txg_ok _ (.inl rfl) h
  have m0 : Mc.mb (mt b0 b1 b2 b3 b4 b5) 0 = b0 := Mc.txg_mb _ (.inl rfl) h 0 (by omega)
  have m1 : Mc.mb (mt b0 b1 b2 b3 b4 b5) 1 = b1 := Mc.txg_mb _ (.inl rfl) h 1 (by omega)
  have m2 : Mc.mb (mt b0 b1 b2 b3 b4 b5) 2 = b2 := Mc.txg_mb _ (.inl rfl) h 2 (by omega)
  have m3 : Mc.mb (mt b0 b1 b2 b3 b4 b5) 3 = b3 := Mc.txg_mb _ (.inl rfl) h 3 (by omega)
  have m4 : Mc.mb (mt b0 b1 b2 b3 b4 b5) 4 = b4 := Mc.txg_mb _ (.inl rfl) h 4 (by omega)
  have m5 : Mc.mb (mt b0 b1 b2 b3 b4 b5) 5 = b5 := Mc.txg_mb _ (.inl rfl) h 5 (by omega)
  unfold stO badB bad6
  simp only [e1, e2, m0, m1, m2, m3, m4, m5, if_true]

/-- The two lines. -/
def lnN (a : Int) (M : List UInt8) : List UInt8 := Ad.textL a ++ 32 :: ([108, 108, 97, 100, 100, 114] ++ 32 :: (M ++ 32 :: [68, 69, 76, 65, 89]))
def lnL (a : Int) (M : List UInt8) (n : Int) : List UInt8 := [108, 101, 97, 115, 101] ++ 32 :: (Ad.textL a ++ 32 :: (M ++ 32 :: Ad.dig n))
theorem lnN_words {a : Int} {M : List UInt8} (hM : (32 : UInt8) ∉ M) : wl (lnN a M) = [Ad.textL a, [108, 108, 97, 100, 100, 114], M, [68, 69, 76, 65, 89]] := by
  unfold lnN
  rw [wl_app (Ad.text_not a 32 (by decide) (by decide)), wl_app (by decide), wl_app hM, wl_one (by decide)]
theorem lnL_words {a n : Int} {M : List UInt8} (hM : (32 : UInt8) ∉ M) : wl (lnL a M n) = [[108, 101, 97, 115, 101], Ad.textL a, M, Ad.dig n] := by
  unfold lnL
  rw [wl_app (by decide), wl_app (Ad.text_not a 32 (by decide) (by decide)), wl_app hM, wl_one (dig_not n)]
theorem nb_line {a b0 b1 b2 b3 b4 b5 : Int} (h0 : 0 ≤ a) (h1 : a < 4294967296) (h : Mc.Six b0 b1 b2 b3 b4 b5) (s : ByteArray) (hs : s = ⟨(lnN a (mt b0 b1 b2 b3 b4 b5).data.toList).toArray⟩) :
    s.size ≤ maxLen ∧ nbO s = if bad6 b0 b1 b2 b3 b4 b5 = true then (zr, 3) else (⟨a, b0, b1, b2, b3, b4, b5, 0⟩, 0) := by
  have hl : s.size ≤ 200 := by
    rw [hs]
    show (lnN _ _).toArray.size ≤ 200
    have := textL_len a h0 h1
    have : (mt b0 b1 b2 b3 b4 b5).size = 17 := by rw [Lib.size_eq]; exact mt_len b0 b1 b2 b3 b4 b5
    simp [lnN]
    omega
  refine ⟨by unfold maxLen; omega, ?_⟩
  have hw := lnN_words (a := a) (mt_not h)
  rw [show lnN a (mt b0 b1 b2 b3 b4 b5).data.toList = s.data.toList by rw [hs]] at hw
  rw [nbO_four hl hw]
  unfold nb4
  rw [if_pos (by decide +kernel), if_neg (by decide +kernel), if_neg (by decide +kernel), if_neg (by decide +kernel), if_neg (by decide +kernel), if_pos (by decide +kernel)]
  exact stO_mt h0 h1 h
theorem ls_line {a b0 b1 b2 b3 b4 b5 n : Int} (h0 : 0 ≤ a) (h1 : a < 4294967296) (h : Mc.Six b0 b1 b2 b3 b4 b5) (hn0 : 0 ≤ n) (hn1 : n < 4294967296) (s : ByteArray) (hs : s = ⟨(lnL a (mt b0 b1 b2 b3 b4 b5).data.toList n).toArray⟩) :
    s.size ≤ maxLen ∧ lsO s = if bad6 b0 b1 b2 b3 b4 b5 = true then (zr, 3) else (⟨a, b0, b1, b2, b3, b4, b5, n⟩, 0) := by
  have hl : s.size ≤ 200 := by
    rw [hs]
    show (lnL _ _ _).toArray.size ≤ 200
    have := textL_len a h0 h1
    have : (mt b0 b1 b2 b3 b4 b5).size = 17 := by rw [Lib.size_eq]; exact mt_len b0 b1 b2 b3 b4 b5
    have := dig_len10 n hn0 hn1
    simp [lnL]
    omega
  refine ⟨by unfold maxLen; omega, ?_⟩
  have hw := lnL_words (a := a) (n := n) (mt_not h)
  rw [show lnL a (mt b0 b1 b2 b3 b4 b5).data.toList n = s.data.toList by rw [hs]] at hw
  rw [lsO_four hl hw]
  unfold ls4
  rw [if_pos (by decide +kernel)]
  have ht : tkO (⟨(Ad.dig n).toArray⟩ : ByteArray).data.toList = (n, 0) := tk_dig n hn0 (by omega)
  have hst : stO ⟨(Ad.textL a).toArray⟩ ⟨(mt b0 b1 b2 b3 b4 b5).data.toList.toArray⟩ = _ := stO_mt h0 h1 h
  rw [ht, hst]
  cases bad6 b0 b1 b2 b3 b4 b5 <;> simp
end Go.Proofs.YthpgmlijfcfddaaGreatDoor
