/-
  The words of a line: what strings.Split at a blank gives, and the contract of lines.split. No condition.
-/
import Derived.Test.YthpgmlijfcfddaaGreatDoorNum
import Derived.Test.YthpgmlijfcfddaaGreatDoorAdAll
import Derived.Test.YthpgmlijfcfddaaGreatDoorMcAwake
namespace Go.Proofs.YthpgmlijfcfddaaGreatDoor
open Go.RowKit

/-- The words of a line: what stands between blanks. -/
def wl : List UInt8 → List (List UInt8)
  | [] => [[]]
  | c :: r => if c = 32 then [] :: wl r else match wl r with
    | [] => [[c]]
    | h :: t => (c :: h) :: t
theorem wl_ne (l : List UInt8) : wl l ≠ [] := by
  cases l with
  | nil => simp [wl]
  | cons c r => unfold wl; split <;> try simp
                split <;> simp
/-- A text as a value. -/
def sv (l : List UInt8) : Value := .string ⟨l.toArray⟩
theorem sv_data (s : ByteArray) : sv s.data.toList = .string s := rfl

theorem wl_split : ∀ l : List UInt8, Lib.splitK [32] 0 (Lib.count l [32]) l = wl l
  | [] => by rw [Lib.count_one]; rfl
  | c :: r => by
    have ih := wl_split r
    by_cases h : c = 32
    · subst h
      rw [Lib.count_cons_eq, Nat.add_comm]
      have hix : Lib.index (32 :: r) [32] = ((0 : Nat) : Int) := by rw [Lib.index]; simp [List.isPrefixOf]
      simp only [Lib.splitK, hix]
      rw [if_neg (by decide)]
      simp only [wl, if_true]
      rw [← ih]
      simp
    · rw [Lib.count_cons_ne c 32 r h]
      have hp : ([32] : List UInt8).isPrefixOf (c :: r) = false := by simp [List.isPrefixOf, Ne.symm h]
      have hix : Lib.index (c :: r) [32] = if Lib.index r [32] == -1 then -1 else Lib.index r [32] + 1 := by rw [Lib.index, hp]; simp
      simp only [wl, if_neg h]
      rw [← ih]
      by_cases hm : Lib.index r [32] = -1
      · have hc : Lib.count r [32] = 0 := Lib.count_miss hm
        rw [hc]
        rfl
      · have hge := Lib.index_ge r [32]
        obtain ⟨j, hj⟩ : ∃ j : Nat, Lib.index r [32] = j := ⟨(Lib.index r [32]).toNat, by omega⟩
        have hhit := Lib.count_hit (by simp) hj
        obtain ⟨m, hmm⟩ : ∃ m, Lib.count r [32] = m + 1 := ⟨Lib.count r [32] - 1, by omega⟩
        rw [hmm]
        simp only [Lib.splitK, hix]
        rw [if_neg (show ¬ (Lib.index r [32] == -1) = true from fun e => hm (beq_iff_eq.1 e)), hj]
        rw [if_neg (show ¬ ((j : Int) + 1 == -1) = true from fun e => by have := beq_iff_eq.1 e; omega), if_neg (show ¬ ((j : Int) == -1) = true from fun e => by have := beq_iff_eq.1 e; omega)]
        simp only [Int.toNat_natCast, show ((j : Int) + 1).toNat = j + 1 by omega]
        simp
theorem words_cells (s : ByteArray) : (Lib.splitB ⟨#[32]⟩ 0 (Lib.countB s ⟨#[32]⟩) s).map Value.string = (wl s.data.toList).map sv := by
  have h := Lib.splitB_data ⟨#[32]⟩ 0 (Lib.countB s ⟨#[32]⟩) s
  rw [← wl_split s.data.toList]
  have e : Lib.countB s ⟨#[32]⟩ = Lib.count s.data.toList [32] := rfl
  rw [← e]
  have h2 : ((⟨#[32]⟩ : ByteArray).data.toList) = [32] := rfl
  rw [h2] at h
  rw [← h, List.map_map]
  rfl
theorem words_length (s : ByteArray) : Lib.countB s ⟨#[32]⟩ + 1 = (wl s.data.toList).length := by
  have h := congrArg List.length (words_cells s)
  rw [List.length_map, List.length_map, Lib.splitB_all ⟨#[32]⟩ (Nat.le_refl _) 0 _ s rfl] at h
  exact h

theorem split_long (s : ByteArray) (w : World) (hs : 200 < s.size) (hm : s.size ≤ maxLen) :
    Calls Tryz.prog 20 #[.string s] w fun e w' => (∃ p, e = .returned (.tuple #[.slice none 0 0, eW p 1])) ∧ Below w.heap.size w w' := by
  unfold maxLen at hm
  go_enter Tryz.func20, Tryz.ntmps20
  go_wp2_with fail
  go_ret2
  exact ⟨⟨_, rfl⟩, Below.refl _ _⟩
theorem split_count (s : ByteArray) (w : World) (hs : s.size ≤ 200) (hw : (wl s.data.toList).length ≠ 4) :
    Calls Tryz.prog 20 #[.string s] w fun e w' => (∃ p, e = .returned (.tuple #[.slice none 0 0, eW p 1])) ∧ Below w.heap.size w w' := by
  have HS := Lib.hid (Tryz.strings_Split_one s 32 w (by omega))
  rw [words_length] at HS
  generalize (wl s.data.toList).length = n at *
  generalize (List.map Value.string (Lib.splitB ⟨#[32]⟩ 0 (Lib.countB s ⟨#[32]⟩) s)).toArray = cs at *
  have e1 : ((n : Int) != 4) = true := by simp; omega
  clear hw
  go_enter Tryz.func20, Tryz.ntmps20
  go_wp2_with fail
  refine (HS.out).mono ?_
  rintro e w1 ⟨rfl, rfl⟩
  go_wp2_with fail
  go_ret2
  exact ⟨⟨_, rfl⟩, (Below.refl _ w).alloc (Nat.le_refl _) _⟩
theorem split_yes (s : ByteArray) (w : World) (hs : s.size ≤ 200) (x0 x1 x2 x3 : List UInt8) (hw : wl s.data.toList = [x0, x1, x2, x3]) :
    Calls Tryz.prog 20 #[.string s] w fun e w' => e = .returned (.tuple #[.slice (some ⟨w.heap.size, 0, none⟩) 4 4, .nilIface]) ∧ w' = w.alloc (.cells #[sv x0, sv x1, sv x2, sv x3] 9) := by
  have hS := Tryz.strings_Split_one s 32 w (by omega)
  rw [words_length, words_cells, hw] at hS
  have HS : Hid (Calls Tryz.prog 30 #[.string s, .string ⟨#[32]⟩] w fun e w' => e = .returned (.slice (some ⟨w.heap.size, 0, none⟩) 4 4) ∧ w' = w.alloc (.cells #[sv x0, sv x1, sv x2, sv x3] 9)) := hS
  clear hS hw
  go_enter Tryz.func20, Tryz.ntmps20
  go_wp2_with fail
  refine (HS.out).mono ?_
  rintro e w1 ⟨rfl, rfl⟩
  go_wp2_with fail
  go_ret2
  exact ⟨rfl, rfl⟩
end Go.Proofs.YthpgmlijfcfddaaGreatDoor
