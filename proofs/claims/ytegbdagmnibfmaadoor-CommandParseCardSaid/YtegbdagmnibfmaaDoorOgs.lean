/-
  What regions that draw are walked by here: calls that answer one value; a variable of the region's own. No condition.
-/
import Derived.Test.YtegbdagmnibfmaaDoorSay
import Derived.Test.YtegbdagmnibfmaaDoorEqe
import Derived.Test.YtegbdagmnibfmaaDoorTl
set_option linter.unusedSimpArgs false
set_option linter.unusedVariables false
namespace Go.Proofs.YtegbdagmnibfmaaDoor
open Go.RowKit

theorem calls_fx {f : FuncId} {args : Array Value} {W : World} {v : Value} {Φ : List (Value → World → Prop)} {i : Nat} (h : Calls Tryd.prog f args W fun e w' => e = .returned v ∧ Below W.heap.size W w') (hi : fAt Φ i = fx v) :
    Calls Tryd.prog f args W fun e w' => ∃ v, e = .returned v ∧ Below W.heap.size W w' ∧ fAt Φ i v w' := h.mono fun _ _ ⟨he, hb⟩ => ⟨v, he, hb, by rw [hi]; exact rfl⟩
theorem calls_fx' {f : FuncId} {args : Array Value} {W : World} {v : Value} {Φ : List (Value → World → Prop)} {i : Nat} (h : Calls Tryd.prog f args W fun e w' => e = .returned v ∧ w' = W) (hi : fAt Φ i = fx v) :
    Calls Tryd.prog f args W fun e w' => ∃ v, e = .returned v ∧ Below W.heap.size W w' ∧ fAt Φ i v w' := h.mono fun _ _ ⟨he, hb⟩ => ⟨v, he, by rw [hb]; exact Below.refl _ _, by rw [hi]; exact rfl⟩
theorem sy_c {W : World} {b : Nat} {y : Sy} (h : Cx W b (syl y)) : W.cell? ⟨b, 0, none⟩ = some (.int .u8 y.wh) ∧ W.cell? ⟨b, 1, none⟩ = some (.int .u32 y.ad) ∧ W.cell? ⟨b, 2, none⟩ = some (.int .u8 y.bi) ∧ W.cell? ⟨b, 3, none⟩ = some (.int .u8 y.ow) ∧ W.cell? ⟨b, 4, none⟩ = some (.int .u8 y.ma) ∧ W.cell? ⟨b, 5, none⟩ = some (.int .u8 y.sp) ∧ W.cell? ⟨b, 6, none⟩ = some (.string y.t) :=
  ⟨h.key 0 _ rfl, h.key 1 _ rfl, h.key 2 _ rfl, h.key 3 _ rfl, h.key 4 _ rfl, h.key 5 _ rfl, h.key 6 _ rfl⟩
theorem Cx.belowY {w w' : World} {b : Nat} {y : Sy} (h : Cx w b (syl y)) (hb : Below w.heap.size w w') : Cx w' b (syl y) := h.keep hb (Cx.lt h)
/-- A variable of the region's own for an event. -/
def nE (B : Nat) : Value → World → Prop := fun v W => ∃ b, v = .pointer (some ⟨b, 0, none⟩) ∧ B ≤ b ∧ Cx W b (evl zev)
theorem stable_nE (B : Nat) : Stable (nE B) := fun _ _ _ ⟨b, h1, h2, h3⟩ hb => ⟨b, h1, h2, h3.belowX hb⟩
theorem nE_new (W : World) (B : Nat) (hB : B ≤ W.heap.size) : nE B (.pointer (some ⟨W.heap.size, 0, none⟩)) (W.alloc (Evx zev)) := ⟨_, rfl, hB, ev_box W zev⟩
end Go.Proofs.YtegbdagmnibfmaaDoor
