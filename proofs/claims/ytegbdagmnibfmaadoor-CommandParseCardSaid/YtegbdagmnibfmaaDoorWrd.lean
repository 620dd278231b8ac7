/-
  The statements' own words: a row of their own; what a region that draws knows of it. No condition.
-/
import Derived.Test.YtegbdagmnibfmaaDoorOgs
set_option linter.unusedSimpArgs false
set_option linter.unusedVariables false
namespace Go.Proofs.YtegbdagmnibfmaaDoor
open Go.RowKit

/-- The words of commands, as cells. -/
def wdl : List Value := [.string ⟨#[]⟩, .string ⟨#[104, 111, 108, 100]⟩, .string ⟨#[100, 114, 111, 112]⟩, .string ⟨#[119, 97, 116, 99, 104]⟩, .string ⟨#[105, 103, 110, 111, 114, 101]⟩, .string ⟨#[]⟩, .string ⟨#[97, 112, 112, 114, 111, 118, 101]⟩, .string ⟨#[114, 101, 106, 101, 99, 116]⟩]
theorem wdl_at {k : Int} (h0 : 0 ≤ k) (h1 : k < 8) : wdl[k.toNat]? = some (.string (nm k)) := by
  rcases lt8 h0 h1 with rfl | rfl | rfl | rfl | rfl | rfl | rfl | rfl <;> rfl
/-- A row with the words. -/
def wF : Value → World → Prop := fun v W => ∃ b, v = .slice (some ⟨b, 0, none⟩) 8 8 ∧ Cx W b wdl
theorem stable_wF : Stable wF := fun _ _ _ ⟨b, h1, h2⟩ hb => ⟨b, h1, h2.below hb⟩
theorem words_any (w : World) : Calls Tryd.prog 13 #[] w fun e w' => ∃ v, e = .returned v ∧ Below w.heap.size w w' ∧ wF v w' := by
  go_enter Tryd.func13, Tryd.ntmps13
  go_wp2_with fail
  go_ret
  exact ⟨_, rfl, (Below.refl _ w).alloc (Nat.le_refl _) _, ⟨_, rfl, cx_box w _ _ _ rfl⟩⟩
/-- A place in such a row. -/
def pF (k : Int) : Value → World → Prop := fun v W => ∃ b, v = .pointer (some ⟨b, k.toNat, none⟩) ∧ W.cell? ⟨b, k.toNat, none⟩ = some (.string (nm k))
theorem stable_pF (k : Int) : Stable (pF k) := fun _ _ _ ⟨b, h1, h2⟩ hb => ⟨b, h1, (hb.cell (p := ⟨b, k.toNat, none⟩) (World.block_lt_of_cell? _ _ h2)).trans h2⟩
end Go.Proofs.YtegbdagmnibfmaaDoor
