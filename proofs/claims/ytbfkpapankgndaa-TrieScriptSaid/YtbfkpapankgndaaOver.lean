/-
  Which of a node's prefixes overlap a prefix: none, where the node's own does not. No condition.
-/
import Derived.Test.YtbfkpapankgndaaTree
import Derived.Test.YtbfkpapankgndaaBits
namespace Go.Proofs.Ytbfkpapankgndaa
open Go.RowKit

theorem within_iff {a b c d : Int} : withinB a b c d = true ↔ okB a b = true ∧ okB c d = true ∧ a - a % p2 d = c ∧ d ≤ b := by
  simp [withinB, hasB, Bool.and_eq_true, and_assoc]
theorem over_iff {a b c d : Int} : overB a b c d = true ↔ withinB a b c d = true ∨ withinB c d a b = true := by simp [overB]

theorem over_up {n : Nat} {a x b : Int} {T : Tr} (hn : n ≤ 32) (ha : a % 2 ^ n = 0) {y : Int × Int} (hy : y ∈ ent n a T) (h : overB y.1 y.2 x b = true) : overB a (32 - (n : Int)) x b = true := by
  have hr := ent_range n a T hn ha y hy
  have hp := two_pos n
  have hN : p2 (32 - (n : Int)) = 2 ^ n := p2_two (by omega)
  have hok : okB a (32 - (n : Int)) = true := ok_iff.2 ⟨by omega, by omega, by rw [hN]; exact ha⟩
  have hya : y.1 - y.1 % 2 ^ n = a := by
    have h1 : (y.1 - a) % 2 ^ n = y.1 - a := Int.emod_eq_of_lt (by omega) (by omega)
    have h2 : y.1 % 2 ^ n = (y.1 - a) % 2 ^ n := by
      rw [Int.sub_emod, ha, Int.sub_zero, Int.emod_emod]
    omega
  rcases over_iff.1 h with h | h
  · obtain ⟨h1, h2, h3, h4⟩ := within_iff.1 h
    have hb := (ok_out h2).1
    rcases Int.lt_or_le (32 - (n : Int)) b with hlt | hle
    · refine over_iff.2 (.inr (within_iff.2 ⟨h2, hok, ?_, by omega⟩))
      have hd : p2 b ∣ 2 ^ n := by rw [← hN]; exact p2_dvd (by omega)
      rw [hN, ← h3, floor_floor hd (p2_pos b) hp, hya]
    · refine over_iff.2 (.inl (within_iff.2 ⟨hok, h2, ?_, hle⟩))
      have hd : (2 : Int) ^ n ∣ p2 b := by rw [← hN]; exact p2_dvd hle
      rw [← hya, floor_floor hd hp (p2_pos b), h3]
  · obtain ⟨h1, h2, h3, h4⟩ := within_iff.1 h
    refine over_iff.2 (.inr (within_iff.2 ⟨h1, hok, ?_, by omega⟩))
    have hd : p2 y.2 ∣ 2 ^ n := by rw [← hN]; exact p2_dvd (by omega)
    rw [hN, ← hya, ← h3, floor_floor hd (p2_pos y.2) hp]

/-- A node's prefixes that overlap one, in order. -/
def ovl (x b : Int) (n : Nat) (a : Int) (T : Tr) : List (Int × Int) := (ent n a T).filter fun y => overB y.1 y.2 x b
theorem ovl_e {x b : Int} {n : Nat} {a : Int} : ovl x b n a .e = [] := by simp [ovl, ent_e]
theorem ovl_off {x b : Int} {n : Nat} {a : Int} {T : Tr} (hn : n ≤ 32) (ha : a % 2 ^ n = 0) (h : overB a (32 - (n : Int)) x b = false) : ovl x b n a T = [] := by
  unfold ovl
  rw [List.filter_eq_nil_iff]
  intro y hy hov
  rw [over_up hn ha hy hov] at h
  cases h
theorem ovl_leaf {x b : Int} {a : Int} {bk : Nat} {k : Bool} {l r : Tr} (h : overB a 32 x b = true) : ovl x b 0 a (.nd bk k l r) = if k = true then [(a, 32)] else [] := by
  cases k <;> simp [ovl, ent, h]
theorem ovl_node {x b : Int} {n : Nat} {a : Int} {bk : Nat} {k : Bool} {l r : Tr} (h : overB a (31 - (n : Int)) x b = true) : ovl x b (n + 1) a (.nd bk k l r) = (if k = true then [(a, 31 - (n : Int))] else []) ++ (ovl x b n a l ++ ovl x b n (a + 2 ^ n) r) := by
  cases k <;> simp [ovl, ent, h]
end Go.Proofs.Ytbfkpapankgndaa
