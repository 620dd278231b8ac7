/-
  Pieces of DiskScript's code, taken out of the translation. No condition.
-/
import Derived.Test.YtlfggfoaelkapaaActs
set_option linter.unusedSimpArgs false
namespace Go.Proofs.Ytlfggfoaelkapaa
open Go.RowKit
/-- The first piece of code that is looked for. -/
def seek (ok : Code → Bool) : Code → Option Code
  | .seq a b => if ok (.seq a b) then some (.seq a b) else match seek ok a with
    | some c => some c
    | none => seek ok b
  | .loop c => seek ok c
  | .block _ c => seek ok c
  | .scope c => seek ok c
  | .cond _ a b => match seek ok a with
    | some c => some c
    | none => seek ok b
  | _ => none
def heads (n : Nat) : Code → Bool
  | .seq (.region m _ _) _ => m == n
  | _ => false
noncomputable def swc : Code := (Try.f3.body.bind (seek (heads 15))).getD .skip
noncomputable def rsc : Code := (Try.f3.body.bind (seek (heads 55))).getD .skip
theorem getE_alloc {w : World} (o : Obj) {b : Nat} {x : Obj} (h : w.heap[b]? = some x) : (w.alloc o).heap[b]? = some x := by
  rw [Below.heap_alloc _ _ _ (Array.getElem?_eq_some_iff.1 h).1]
  exact h
/-- The account at first. -/
theorem inv_start {w w1 : World} {p k nn : Nat} (h : Ds w1 p k (.slice none 0 0) ⟨nn, fun _ => zer, [], 0, none, none, false⟩) (hb : Below w.heap.size w w1) (hf : ∀ b, ft p k (.slice none 0 0) b → w.heap.size ≤ b) :
    Inv w (((((w1.alloc (ZR nn)).alloc (.cells #[.int .i64 (-1)] 3)).alloc (.cells #[.int .i64 (-1)] 3)).alloc (.cells #[.int .i64 0] 3)).alloc (.cells #[.bool false] 4)) p k (.slice none 0 0)
      w1.heap.size (w1.heap.size + 1) (w1.heap.size + 1 + 1) (w1.heap.size + 1 + 1 + 1) (w1.heap.size + 1 + 1 + 1 + 1) (.slice none 0 0) ⟨nn, fun _ => zer, [], 0, none, none, false⟩ ⟨nn, fun _ => zer, [], 0, none, none, false⟩ := by
  have B : Below w1.heap.size w1 (((((w1.alloc (ZR nn)).alloc (.cells #[.int .i64 (-1)] 3)).alloc (.cells #[.int .i64 (-1)] 3)).alloc (.cells #[.int .i64 0] 3)).alloc (.cells #[.bool false] 4)) :=
    (((((Below.refl _ w1).alloc (Nat.le_refl _) _).alloc (by simp) _).alloc (by simp; omega) _).alloc (by simp; omega) _).alloc (by simp; omega) _
  have hg : ∀ b, gt w1.heap.size (w1.heap.size + 1) (w1.heap.size + 1 + 1) (w1.heap.size + 1 + 1 + 1) (w1.heap.size + 1 + 1 + 1 + 1) (.slice none 0 0) b → w1.heap.size ≤ b := by
    rintro b (e | e | e | e | e | e)
    · omega
    · omega
    · omega
    · omega
    · omega
    · simp [Value.ownBlock] at e
  refine ⟨h.below B, ⟨((((rowZR w1 nn).alloc _).alloc _).alloc _).alloc _, World.ownsRow_nil _ _ _ _, ?_, ?_, ?_, ?_, by omega, by omega, by simp [Value.ownBlock], by simp⟩, fun b hb' hg' => by have := h.lt b hb'; have := hg b hg'; omega, hf, fun b hb' => Nat.le_trans hb.size (hg b hb'), hb.trans (B.mono hb.size)⟩
  · refine getE_alloc _ (getE_alloc _ (getE_alloc _ ?_))
    have := heap_alloc_new (w1.alloc (ZR nn)) (.cells #[.int .i64 (-1)] 3)
    rwa [World.size_alloc] at this
  · refine getE_alloc _ (getE_alloc _ ?_)
    have := heap_alloc_new ((w1.alloc (ZR nn)).alloc (.cells #[.int .i64 (-1)] 3)) (.cells #[.int .i64 (-1)] 3)
    rwa [World.size_alloc, World.size_alloc] at this
  · refine getE_alloc _ ?_
    have := heap_alloc_new (((w1.alloc (ZR nn)).alloc (.cells #[.int .i64 (-1)] 3)).alloc (.cells #[.int .i64 (-1)] 3)) (.cells #[.int .i64 0] 3)
    rwa [World.size_alloc, World.size_alloc, World.size_alloc] at this
  · have := heap_alloc_new ((((w1.alloc (ZR nn)).alloc (.cells #[.int .i64 (-1)] 3)).alloc (.cells #[.int .i64 (-1)] 3)).alloc (.cells #[.int .i64 0] 3)) (.cells #[.bool false] 4)
    rwa [World.size_alloc, World.size_alloc, World.size_alloc, World.size_alloc] at this
/-- What is known of the disk behind so many deeds. -/
def Gd (nn q : Nat) (M : Dk) : Prop := M.n = nn ∧ M.calls ≤ q ∧ M.stop.getD 0 < 1000 ∧ M.fail.getD 0 < 1000
end Go.Proofs.Ytlfggfoaelkapaa
