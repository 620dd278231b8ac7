/-
  Contracts of command.name, named, counts, ofBlock and blockEvent. Conditions: kinds are from 0 to 7 where their names are asked; texts are ones that a process can hold.
-/
import Derived.Test.YtegbdagmnibfmaaDoorWds
set_option linter.unusedSimpArgs false
set_option linter.unusedVariables false
namespace Go.Proofs.YtegbdagmnibfmaaDoor
open Go.RowKit

/-- The word of a kind. -/
def nm (k : Int) : ByteArray :=
  if k = 1 then ⟨#[104, 111, 108, 100]⟩ else if k = 2 then ⟨#[100, 114, 111, 112]⟩ else if k = 3 then ⟨#[119, 97, 116, 99, 104]⟩ else
  if k = 4 then ⟨#[105, 103, 110, 111, 114, 101]⟩ else if k = 6 then ⟨#[97, 112, 112, 114, 111, 118, 101]⟩ else if k = 7 then ⟨#[114, 101, 106, 101, 99, 116]⟩ else ⟨#[]⟩
/-- The kind of a word; 0: none's. -/
def knd (s : ByteArray) : Int :=
  if (s.toList == [104, 111, 108, 100]) = true then 1 else if (s.toList == [100, 114, 111, 112]) = true then 2 else if (s.toList == [119, 97, 116, 99, 104]) = true then 3 else
  if (s.toList == [105, 103, 110, 111, 114, 101]) = true then 4 else if (s.toList == [97, 112, 112, 114, 111, 118, 101]) = true then 6 else if (s.toList == [114, 101, 106, 101, 99, 116]) = true then 7 else 0
theorem lt8 {k : Int} (h0 : 0 ≤ k) (h1 : k < 8) : k = 0 ∨ k = 1 ∨ k = 2 ∨ k = 3 ∨ k = 4 ∨ k = 5 ∨ k = 6 ∨ k = 7 := by omega
theorem knd_bd (s : ByteArray) : 0 ≤ knd s ∧ knd s < 8 ∧ knd s ≠ 5 := by 
  unfold knd
  repeat' split
  all_goals omega
theorem nm0 : (nm 0).toList = [] := by decide +kernel
theorem nm1 : (nm 1).toList = [104, 111, 108, 100] := by decide +kernel
theorem nm2 : (nm 2).toList = [100, 114, 111, 112] := by decide +kernel
theorem nm3 : (nm 3).toList = [119, 97, 116, 99, 104] := by decide +kernel
theorem nm4 : (nm 4).toList = [105, 103, 110, 111, 114, 101] := by decide +kernel
theorem nm5 : (nm 5).toList = [] := by decide +kernel
theorem nm6 : (nm 6).toList = [97, 112, 112, 114, 111, 118, 101] := by decide +kernel
theorem nm7 : (nm 7).toList = [114, 101, 106, 101, 99, 116] := by decide +kernel
theorem kn_hit {s : ByteArray} {k : Int} (h0 : 0 ≤ k) (h1 : k < 8) (he : s.toList.isEmpty = false) (h : (s.toList == (nm k).toList) = true) : knd s = k ∧ k ≠ 0 := by
  have e := eq_of_beq h
  rcases lt8 h0 h1 with rfl | rfl | rfl | rfl | rfl | rfl | rfl | rfl
  · rw [nm0] at e; rw [e] at he; cases he
  · rw [nm1] at e; unfold knd; rw [e]; decide +kernel
  · rw [nm2] at e; unfold knd; rw [e]; decide +kernel
  · rw [nm3] at e; unfold knd; rw [e]; decide +kernel
  · rw [nm4] at e; unfold knd; rw [e]; decide +kernel
  · rw [nm5] at e; rw [e] at he; cases he
  · rw [nm6] at e; unfold knd; rw [e]; decide +kernel
  · rw [nm7] at e; unfold knd; rw [e]; decide +kernel
theorem kn_miss {s : ByteArray} (h : ∀ j : Nat, j < 8 → (s.toList == (nm j).toList) = false) : knd s = 0 := by
  have h1 := h 1 (by omega)
  have h2 := h 2 (by omega)
  have h3 := h 3 (by omega)
  have h4 := h 4 (by omega)
  have h6 := h 6 (by omega)
  have h7 := h 7 (by omega)
  rw [show ((1 : Nat) : Int) = 1 from rfl, nm1] at h1
  rw [show ((2 : Nat) : Int) = 2 from rfl, nm2] at h2
  rw [show ((3 : Nat) : Int) = 3 from rfl, nm3] at h3
  rw [show ((4 : Nat) : Int) = 4 from rfl, nm4] at h4
  rw [show ((6 : Nat) : Int) = 6 from rfl, nm6] at h6
  rw [show ((7 : Nat) : Int) = 7 from rfl, nm7] at h7
  unfold knd
  rw [h1, h2, h3, h4, h6, h7]
  decide
theorem kn_empty {s : ByteArray} (h : s.toList.isEmpty = true) : knd s = 0 := by
  unfold knd
  rw [List.isEmpty_iff.1 h]
  decide

theorem name_any (k : Int) (w : World) (h0 : 0 ≤ k) (h1 : k < 8) : Calls Tryd.prog 37 #[.int .i64 k] w fun e w' => e = .returned (.string (nm k)) ∧ w' = w := by
  rcases lt8 h0 h1 with rfl | rfl | rfl | rfl | rfl | rfl | rfl | rfl <;>
  · go_enter Tryd.func37, Tryd.ntmps37
    go_wp2_with fail
    go_ret
    exact ⟨rfl, rfl⟩

set_option maxHeartbeats 2000000 in
theorem named_any (s : ByteArray) (w : World) : Calls Tryd.prog 21 #[.string s] w fun e w' => e = .returned (.tuple #[.int .i64 (knd s), .bool (!(knd s == 0))]) ∧ w' = w := by
  have HN := Lib.hid fun (k : Int) W h0 h1 => name_any k W h0 h1
  cases he : s.toList.isEmpty
  · have hee : (s.toList = []) = False := by
      simp
      intro hh
      rw [hh] at he
      cases he
    have HE := Lib.hid he
    go_enter Tryd.func21, Tryd.ntmps21
    go_wp2_with fail
    go_loop [5] (fun i => ∃ k : Nat, i = .int .i64 k ∧ k ≤ 8 ∧ Hid (∀ j : Nat, j < k → (s.toList == (nm j).toList) = false)) (fun i => 8 - (intOf i).toNat)
    case atStart => exact ⟨0, rfl, by omega, Lib.hid fun j hj => by omega⟩
    case round =>
      obtain ⟨k, rfl, hk, HH⟩ := hrel
      by_cases hlt : k < 8
      · have hn2 := fun W => HN.out (k : Int) W (by omega) (by omega)
        have hk2 := kn_hit (s := s) (k := (k : Int)) (by omega) (by omega) HE.out
        have hs2 : ∀ j : Nat, j < k + 1 → (s.toList == (nm (k : Int)).toList) = false → (s.toList == (nm (j : Int)).toList) = false := fun j hj h => by
          by_cases e : j = k
          · rw [e]; exact h
          · exact HH.out j (by omega)
        obtain ⟨z, hz⟩ : ∃ z, nm (k : Int) = z := ⟨_, rfl⟩
        rw [hz] at hn2 hk2
        simp only [hz] at hs2
        obtain ⟨T, hT⟩ : ∃ T, (s.toList == z.toList) = T := ⟨_, rfl⟩
        rw [hT] at hk2
        simp only [hT] at hs2
        have HK := Lib.hid hk2
        have HS := Lib.hid hs2
        have HN2 := Lib.hid hn2
        clear hk2 hs2 hn2 hz HN
        cases T
        · go_wp2_with fail
          refine (HN2.out _).mono ?_
          rintro e w1 ⟨rfl, rfl⟩
          go_wp2_with fail
          go_round
          case rel => exact ⟨k + 1, by go_num, by omega, Lib.hid fun j hj => HS.out j hj trivial⟩
          case measure => simp [intOf]; omega
        · go_wp2_with fail
          refine (HN2.out _).mono ?_
          rintro e w1 ⟨rfl, rfl⟩
          go_wp2_with fail
          go_ret2
          refine ⟨?_, rfl⟩
          obtain ⟨e1, e2⟩ := HK.out trivial
          rw [e1, beq_eq_false_iff_ne.2 e2]
          rfl
      · obtain rfl : k = 8 := by omega
        have HZ := Lib.hid (kn_miss HH.out)
        go_wp2_with fail
        go_ret2
        exact ⟨by rw [HZ.out]; rfl, rfl⟩
  · have hee : (s.toList = []) = True := by simpa using List.isEmpty_iff.1 he
    have HZ := Lib.hid (kn_empty he)
    go_enter Tryd.func21, Tryd.ntmps21
    go_wp2_with fail
    go_loop [5] (fun i => ∃ k : Nat, i = .int .i64 k ∧ k ≤ 8) (fun i => 8 - (intOf i).toNat)
    case atStart => exact ⟨0, rfl, by omega⟩
    case round =>
      obtain ⟨k, rfl, hk⟩ := hrel
      by_cases hlt : k < 8
      · go_wp2_with fail
        go_round
        case rel => exact ⟨k + 1, by go_num, by omega⟩
        case measure => simp [intOf]; omega
      · obtain rfl : k = 8 := by omega
        go_wp2_with fail
        go_ret2
        exact ⟨by rw [HZ.out]; rfl, rfl⟩

/-- The fewest and the most words of a command. -/
def loW (k : Int) : Int := if k = 1 then 3 else 2
def hiW (k : Int) : Int := if k = 1 then 4 else 2
theorem counts_any (k : Int) (w : World) : Calls Tryd.prog 23 #[.int .i64 k] w fun e w' => e = .returned (.tuple #[.int .i64 (loW k), .int .i64 (hiW k)]) ∧ w' = w := by
  by_cases h : k = 1
  · subst h
    go_enter Tryd.func23, Tryd.ntmps23
    go_wp2_with fail
    go_ret2
    exact ⟨rfl, rfl⟩
  · have H1 := Lib.hid (show loW k = 2 from if_neg h)
    have H2 := Lib.hid (show hiW k = 2 from if_neg h)
    go_enter Tryd.func23, Tryd.ntmps23
    go_wp2_with fail
    go_ret2
    exact ⟨by rw [H1.out, H2.out]; rfl, rfl⟩
theorem ofBlock_any (k : Int) (w : World) : Calls Tryd.prog 24 #[.int .i64 k] w fun e w' => e = .returned (.bool ((k == 3) || (k == 4))) ∧ w' = w := by
  cases h : (k == 3)
  · go_enter Tryd.func24, Tryd.ntmps24
    go_wp2_with fail
    go_ret
    exact ⟨ret_bool (by simp), rfl⟩
  · go_enter Tryd.func24, Tryd.ntmps24
    go_wp2_with fail
    go_ret
    exact ⟨ret_bool (by simp), rfl⟩
end Go.Proofs.YtegbdagmnibfmaaDoor
