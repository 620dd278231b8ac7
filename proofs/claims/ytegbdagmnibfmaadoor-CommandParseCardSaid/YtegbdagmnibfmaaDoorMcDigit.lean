/-
  Contracts of digit and pair (package mac): what each returns, for every byte; nothing in memory is touched.
-/
import Derived.Test.YtegbdagmnibfmaaDoorProg
import Derived.WalkKit
import Derived.WalkLawsBesides
import Derived.BigQuiet
import Derived.Deep.QuietTactic
import Derived.Lib.QuietBelow
import Derived.Lib.Hide
namespace Go.Proofs.YtegbdagmnibfmaaDoor.Mc
open Go.RowKit

theorem ret_bool {a b : Bool} (h : a = b) : Ending.returned (.bool a) = .returned (.bool b) := by rw [h]
theorem ret_int {k : IntKind} {a b : Int} (h : a = b) : Ending.returned (.int k a) = .returned (.int k b) := by rw [h]
theorem bdrewN {B : Nat} {a w : World} (h : Below B a w) (n : Nat) : Below B a (w.drewN n) := h.trans ⟨rfl, rfl, rfl, Nat.le_refl _, fun _ _ => rfl⟩
theorem bcell {W w1 : World} (hb : Below W.heap.size W w1) : (∀ b o, b < W.heap.size → w1.cell? ⟨b, o, none⟩ = W.cell? ⟨b, o, none⟩) ∧ (∀ b o, b < W.heap.size → w1.frozen? ⟨b, o, none⟩ = W.frozen? ⟨b, o, none⟩) :=
  ⟨fun b o h => hb.cell (p := ⟨b, o, none⟩) h, fun b o h => hb.frozen (p := ⟨b, o, none⟩) h⟩

/-- The value of a digit, or none. -/
def digO (c : Int) : Option Int :=
  if 48 ≤ c ∧ c ≤ 57 then some (c - 48) else if 65 ≤ c ∧ c ≤ 70 then some (c - 55) else if 97 ≤ c ∧ c ≤ 102 then some (c - 87) else none

/-- What 'digit' returns. -/
def digV (o : Option Int) : Value := match o with
  | some n => .tuple #[.int .u8 n, .bool true]
  | none => .tuple #[.int .u8 0, .bool false]

theorem digit_any (c : Int) (w : World) (h0 : 0 ≤ c) (h1 : c < 256) :
    Calls Tryd.prog 58 #[.int .u8 c] w fun e w' => e = .returned (digV (digO c)) ∧ w = w' := by
  by_cases a1 : 48 ≤ c ∧ c ≤ 57
  · have e : digO c = some (c - 48) := by simp [digO, a1]
    rw [e]; clear e
    obtain ⟨a, b⟩ := a1
    go_enter Tryd.func58, Tryd.ntmps58
    go_wp2
    go_ret2
    exact ⟨rfl, rfl⟩
  · by_cases a2 : 65 ≤ c ∧ c ≤ 70
    · have e : digO c = some (c - 55) := by simp [digO, a1, a2]
      rw [e]; clear e a1
      obtain ⟨a, b⟩ := a2
      go_enter Tryd.func58, Tryd.ntmps58
      go_wp2
      go_ret2
      exact ⟨by simp only [digV]; congr 3; go_num, rfl⟩
    · by_cases a3 : 97 ≤ c ∧ c ≤ 102
      · have e : digO c = some (c - 87) := by simp [digO, a1, a2, a3]
        rw [e]; clear e a1 a2
        obtain ⟨a, b⟩ := a3
        go_enter Tryd.func58, Tryd.ntmps58
        go_wp2
        go_ret2
        exact ⟨by simp only [digV]; congr 3; go_num, rfl⟩
      · have e : digO c = none := by simp [digO, a1, a2, a3]
        rw [e]; clear e
        rcases (show c < 48 ∨ (57 < c ∧ c < 65) ∨ (70 < c ∧ c < 97) ∨ 102 < c by omega) with g | ⟨g, g'⟩ | ⟨g, g'⟩ | g
        all_goals
          clear a1 a2 a3
          go_enter Tryd.func58, Tryd.ntmps58
          go_wp2
          go_ret2
          exact ⟨rfl, rfl⟩
end Go.Proofs.YtegbdagmnibfmaaDoor.Mc
