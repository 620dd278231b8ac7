/-
  Contracts of pair and separated (package mac).
-/
import Derived.Test.YtegbdagmnibfmaaDoorMcDigit
import Derived.Laws.BitsAllLaws
namespace Go.Proofs.YtegbdagmnibfmaaDoor.Mc
open Go.RowKit

theorem dig_bd {c n : Int} (h : digO c = some n) : 0 ≤ n ∧ n < 16 := by
  unfold digO at h
  split at h
  · injection h with h; omega
  · split at h
    · injection h with h; omega
    · split at h
      · injection h with h; omega
      · cases h
/-- The value of a digit, 0 of none. -/
def digN (c : Int) : Int := (digO c).getD 0
theorem digN_bd (c : Int) : 0 ≤ digN c ∧ digN c < 16 := by
  unfold digN
  cases h : digO c with
  | none => simp
  | some n => exact dig_bd h
/-- Whether a byte is a digit. -/
def digB (c : Int) : Bool := (digO c).isSome
theorem digV_eq (c : Int) : digV (digO c) = .tuple #[.int .u8 (digN c), .bool (digB c)] := by
  unfold digN digB
  cases digO c <;> rfl
theorem digit_eq (c : Int) (w : World) (h0 : 0 ≤ c) (h1 : c < 256) :
    Calls Tryd.prog 58 #[.int .u8 c] w fun e w' => e = .returned (.tuple #[.int .u8 (digN c), .bool (digB c)]) ∧ w = w' := by
  rw [← digV_eq]; exact digit_any c w h0 h1

theorem or_eq (p q : Int) (a1 : 0 ≤ p) (a2 : p < 16) (a3 : 0 ≤ q) (a4 : q < 16) : bits .or .u8 (p * 16) q = p * 16 + q := by
  rw [u8_or _ _ (by omega) (by omega) (by omega) (by omega)]
  have h : ∀ m n : Fin 16, (m.val * 16 ||| n.val) = m.val * 16 + n.val := by decide
  have := h ⟨p.toNat, by omega⟩ ⟨q.toNat, by omega⟩
  simp only at this
  rw [show (p * 16).toNat = p.toNat * 16 by omega, this]
  omega

theorem pair_any (x y : Int) (w : World) (h0 : 0 ≤ x) (h1 : x < 256) (g0 : 0 ≤ y) (g1 : y < 256) :
    Calls Tryd.prog 46 #[.int .u8 x, .int .u8 y] w fun e w' => e = .returned (.tuple #[.int .u8 (digN x * 16 + digN y), .bool (digB x && digB y)]) ∧ w = w' := by
  have HX := Lib.hid fun W => digit_eq x W h0 h1
  have HY := Lib.hid fun W => digit_eq y W g0 g1
  have bx := digN_bd x
  have byy := digN_bd y
  generalize digN x = p at *
  generalize digN y = q at *
  obtain ⟨a1, a2⟩ := bx
  obtain ⟨a3, a4⟩ := byy
  have HO := Lib.hid (or_eq p q a1 a2 a3 a4)
  generalize digB x = X at *
  cases X
  all_goals
    go_enter Tryd.func46, Tryd.ntmps46
    go_wp2_with fail
    refine (HX.out _).mono ?_
    rintro e w1 ⟨rfl, rfl⟩
    go_wp2_with fail
    refine (HY.out _).mono ?_
    rintro e w1 ⟨rfl, rfl⟩
    go_wp2_with fail
    go_ret2
    rw [← HO.out]
    exact ⟨rfl, rfl⟩

/-- The byte at a place of a text, 0 behind its end. -/
def at_ (s : ByteArray) (k : Nat) : Int := ((s.data.toList.getD k 0).toNat : Int)
theorem at_get (s : ByteArray) (k : Nat) (h : k < s.size) : (s[k].toNat : Int) = at_ s k := by
  unfold at_
  rw [List.getD_eq_getElem?_getD, List.getElem?_eq_getElem (by simpa using h)]
  rfl
theorem at_bd (s : ByteArray) (k : Nat) : 0 ≤ at_ s k ∧ at_ s k < 256 := by
  unfold at_
  have := (s.data.toList.getD k 0).toNat_lt
  omega

/-- Whether the same separator stands behind each pair: the places ahead of k. -/
def SepTo (s : ByteArray) (k : Nat) : Prop := ∀ i, i < k → i % 3 = 2 → at_ s i = at_ s 2
instance (s : ByteArray) (k : Nat) : Decidable (SepTo s k) := inferInstanceAs (Decidable (∀ i, i < k → i % 3 = 2 → at_ s i = at_ s 2))
def sepB (s : ByteArray) : Bool := decide ((at_ s 2 = 58 ∨ at_ s 2 = 45) ∧ SepTo s 17)

theorem SepTo.step {s : ByteArray} {k : Nat} (h : SepTo s k) (hk : at_ s k = at_ s 2) (hm : k % 3 = 2) : SepTo s (k + 3) := by
  intro i hi hm'
  by_cases e : i < k
  · exact h i e hm'
  · rw [show i = k by omega]; exact hk

set_option maxHeartbeats 1000000 in
theorem separated_loop (s : ByteArray) (w : World) (hsm : s.size ≤ 17) (hsl : 17 ≤ s.size) (hz : 2 < s.size) (t1 t2 : Bool) (h1 : ((s[2].toNat : Int) != 58) = t1) (h2 : ((s[2].toNat : Int) != 45) = t2) (ht : (t1 && t2) = false) (HF : Hid (at_ s 2 = 58 ∨ at_ s 2 = 45)) :
    Calls Tryd.prog 45 #[.string s] w fun e w' => e = .returned (.bool (sepB s)) ∧ w = w' := by
  have H2 := Lib.hid (at_get s 2 hz)
  cases t1
  all_goals cases t2
  all_goals simp only [Bool.and_false, Bool.and_true] at ht
  all_goals first | (cases ht; done) | skip
  all_goals
    go_enter Tryd.func45, Tryd.ntmps45
    go_wp2
    go_loop [4] (fun i => ∃ k : Nat, k ≤ 17 ∧ k % 3 = 2 ∧ i = .int .i64 k ∧ SepTo s k) (fun i => 17 - (intOf i).toNat)
    case atStart => exact ⟨2, by omega, rfl, rfl, fun i hi hm => by omega⟩
    case round =>
      obtain ⟨k, hk, hm, rfl, hS⟩ := hrel
      have HS := Lib.hid hS
      clear hS
      by_cases hlt : k < s.size
      · have hg := at_get s k hlt
        by_cases he : at_ s k = at_ s 2
        · have te : ((s[k].toNat : Int) != (s[2].toNat : Int)) = false := by rw [hg, H2.out, he]; simp
          have HE := Lib.hid he
          clear he hg
          go_wp2
          go_round
          case rel => exact ⟨k + 3, by omega, by omega, by go_num, HS.out.step HE.out hm⟩
          case measure => simp [intOf]; omega
        · have te : ((s[k].toNat : Int) != (s[2].toNat : Int)) = true := by rw [hg, H2.out]; simpa using he
          have HE := Lib.hid (show sepB s = false by
            unfold sepB; rw [decide_eq_false_iff_not]; intro ⟨_, h⟩; exact he (h k (by omega) hm))
          clear he hg
          go_wp2
          go_ret
          exact ⟨by rw [HE.out]; rfl, rfl⟩
      · have HE := Lib.hid (show sepB s = true by
          unfold sepB; rw [decide_eq_true_eq]; exact ⟨HF.out, fun i hi => HS.out i (by omega)⟩)
        go_wp2
        go_ret
        exact ⟨by rw [HE.out]; rfl, rfl⟩
theorem separated_any (s : ByteArray) (w : World) (hs : s.size = 17) :
    Calls Tryd.prog 45 #[.string s] w fun e w' => e = .returned (.bool (sepB s)) ∧ w = w' := by
  have hz : 2 < s.size := by omega
  have h2 := at_get s 2 hz
  have hsm : s.size ≤ 17 := by omega
  have hsl : 17 ≤ s.size := by omega
  by_cases hf : at_ s 2 = 58 ∨ at_ s 2 = 45
  · refine separated_loop s w hsm hsl hz _ _ rfl rfl ?_ (Lib.hid hf)
    rw [h2]; rcases hf with e | e <;> simp [e]
  · have t1 : ((s[2].toNat : Int) != 58) = true := by rw [h2]; simpa using fun e => hf (.inl e)
    have t2 : ((s[2].toNat : Int) != 45) = true := by rw [h2]; simpa using fun e => hf (.inr e)
    have HE := Lib.hid (show sepB s = false by
      unfold sepB; rw [decide_eq_false_iff_not]; exact fun h => hf h.1)
    clear hf h2 hs
    go_enter Tryd.func45, Tryd.ntmps45
    go_wp2
    go_ret
    exact ⟨by rw [HE.out]; rfl, rfl⟩
end Go.Proofs.YtegbdagmnibfmaaDoor.Mc
