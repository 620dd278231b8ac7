/-
  The contracts of held.ownerByte, held.May and the statements' own may. No condition but that texts are ones that a process can hold.
-/
import Derived.Test.YtbjlklkmcpnemaaCdB
import Derived.Lib.Hide
import Derived.Lib.QuietBelow
import Derived.OwnWalk
import Derived.WalkKit
set_option linter.unusedSimpArgs false
set_option linter.unusedVariables false
namespace Go.Proofs.Ytbjlklkmcpnemaa.Hl
open Go.RowKit

/-- Whether a byte is a small letter, or a digit. -/
def obB (c : Int) : Bool := decide (97 ≤ c ∧ c ≤ 122 ∨ 48 ≤ c ∧ c ≤ 57)
theorem ob_yes {c : Int} (h : 97 ≤ c ∧ c ≤ 122 ∨ 48 ≤ c ∧ c ≤ 57) : obB c = true := decide_eq_true h
theorem ob_no {c : Int} (h : ¬ (97 ≤ c ∧ c ≤ 122 ∨ 48 ≤ c ∧ c ≤ 57)) : obB c = false := decide_eq_false h
theorem ob_any (c : Int) (w : World) (h0 : 0 ≤ c) (h1 : c < 256) : Calls Try.prog 54 #[.int .u8 c] w fun e w' => e = .returned (.bool (obB c)) ∧ w' = w := by
  by_cases a : 97 ≤ c
  · by_cases b : c ≤ 122
    · have H := Lib.hid (ob_yes (c := c) (by omega))
      go_enter Try.func54, Try.ntmps54
      go_wp2_with fail
      go_ret
      exact ⟨by rw [H.out]; first | rfl | exact ret_bool (by simp; omega), rfl⟩
    · have H := Lib.hid (ob_no (c := c) (by omega))
      have b' : (c ≤ 57) = False := by simp; omega
      go_enter Try.func54, Try.ntmps54
      go_wp2_with fail
      go_ret
      exact ⟨by rw [H.out]; first | rfl | exact ret_bool (by simp; omega), rfl⟩
  · by_cases b : 48 ≤ c ∧ c ≤ 57
    · obtain ⟨b0, b1⟩ := b
      have H := Lib.hid (ob_yes (c := c) (by omega))
      go_enter Try.func54, Try.ntmps54
      go_wp2_with fail
      go_ret
      exact ⟨by rw [H.out]; first | rfl | exact ret_bool (by simp; omega), rfl⟩
    · have H := Lib.hid (ob_no (c := c) (by omega))
      by_cases b0 : 48 ≤ c
      · have b1 : 57 < c := by omega
        clear b
        go_enter Try.func54, Try.ntmps54
        go_wp2_with fail
        go_ret
        exact ⟨by rw [H.out]; first | rfl | exact ret_bool (by simp; omega), rfl⟩
      · clear b
        go_enter Try.func54, Try.ntmps54
        go_wp2_with fail
        go_ret
        exact ⟨by rw [H.out]; first | rfl | exact ret_bool (by simp; omega), rfl⟩
/-- The first k bytes may all be an owner's. -/
def obs (s : ByteArray) (k : Nat) : Bool := (s.data.toList.take k).all fun c => obB (c.toNat : Int)
theorem obs_zero (s : ByteArray) : obs s 0 = true := by simp [obs]
theorem obs_snoc (s : ByteArray) (k : Nat) (h : k < s.size) : obs s (k + 1) = (obs s k && obB (s[k].toNat : Int)) := by
  unfold obs
  rw [List.take_succ_eq_append_getElem (by simpa using h), List.all_append]
  simp
  rfl
theorem obs_false (s : ByteArray) (k n : Nat) (h : obs s k = false) (hk : k ≤ n) : obs s n = false := by
  unfold obs at h ⊢
  rw [Bool.eq_false_iff] at h ⊢
  intro hc
  apply h
  rw [List.all_eq_true] at hc ⊢
  intro x hx
  refine hc x ?_
  have : (s.data.toList.take n).take k = s.data.toList.take k := by rw [List.take_take]; congr 1; omega
  rw [← this] at hx
  exact List.mem_of_mem_take hx
/-- Which owners may be. -/
def mayB (s : ByteArray) : Bool := decide (0 < s.size) && decide (s.size ≤ 8) && obs s s.size

set_option maxRecDepth 100000 in
set_option maxHeartbeats 2000000 in
theorem may_any (s : ByteArray) (w : World) (hs : s.size ≤ 9223372036854775807) : Calls Try.prog 28 #[.string s] w fun e w' => e = .returned (.bool (mayB s)) ∧ w' = w := by
  by_cases h0 : s.size = 0
  · have H := Lib.hid (show mayB s = false by simp [mayB, h0])
    have he : s.toList = [] := by
      rw [ByteArray.toList_eq]
      exact List.eq_nil_of_length_eq_zero (by rw [← h0]; rfl)
    have he2 : s.toList.isEmpty = true := by rw [he]; rfl
    clear h0
    go_enter Try.func28, Try.ntmps28
    go_wp2_with fail
    go_ret
    exact ⟨by rw [H.out]; first | rfl | exact ret_bool (by simp; omega), rfl⟩
  · have he2 : s.toList.isEmpty = false := by
      rw [ByteArray.toList_eq]
      cases hh : s.data.toList with
      | nil =>
        exfalso
        apply h0
        have : s.data.toList.length = 0 := by rw [hh]; rfl
        exact this
      | cons a b => rfl
    have he : (s.toList = []) = False := by
      simp
      intro hh
      rw [hh] at he2
      cases he2
    by_cases h8 : 8 < s.size
    · have H := Lib.hid (show mayB s = false by simp [mayB]; omega)
      have h8' : (8 : Int) < s.size := by omega
      clear h0
      go_enter Try.func28, Try.ntmps28
      go_wp2_with fail
      go_ret
      exact ⟨by rw [H.out]; first | rfl | exact ret_bool (by simp; omega), rfl⟩
    · have h8' : ¬ (8 : Int) < s.size := by omega
      have HM := Lib.hid (show mayB s = obs s s.size by simp [mayB]; omega)
      clear h0
      go_enter Try.func28, Try.ntmps28
      go_wp2_with fail
      go_loop [13] (fun i => ∃ k : Nat, i = .int .i64 k ∧ k ≤ s.size ∧ Hid (obs s k = true)) (fun i => s.size - (intOf i).toNat)
      case atStart => exact ⟨0, rfl, by omega, obs_zero s⟩
      case round =>
        obtain ⟨k, rfl, hk, HH⟩ := hrel
        by_cases hlt : k < s.size
        · have HS := Lib.hid (obs_snoc s k hlt)
          have HF := Lib.hid (obs_false s (k + 1) s.size)
          have HO := Lib.hid fun W => ob_any (s[k].toNat : Int) W (by omega) (by have := s[k].toNat_lt; omega)
          obtain ⟨C, hC⟩ : ∃ C, obB (s[k].toNat : Int) = C := ⟨_, rfl⟩
          rw [hC] at HS HO
          clear hC
          go_wp2_with fail
          refine (HO.out _).mono ?_
          rintro e w1 ⟨rfl, rfl⟩
          cases C
          · go_wp2_with fail
            go_ret
            refine ⟨ret_bool ?_, rfl⟩
            rw [HM.out, HF.out (by rw [HS.out]; simp) (by omega)]
          · go_wp2_with fail
            go_round
            case rel => exact ⟨k + 1, by go_num, by omega, Lib.hid (by rw [HS.out, HH.out]; rfl)⟩
            case measure => simp [intOf]; omega
        · obtain rfl : k = s.size := by omega
          go_wp2_with fail
          go_ret
          exact ⟨ret_bool (by rw [HM.out, HH.out]), rfl⟩

end Go.Proofs.Ytbjlklkmcpnemaa.Hl
