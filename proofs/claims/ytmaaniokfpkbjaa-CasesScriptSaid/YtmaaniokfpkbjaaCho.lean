/-
  Small lists, and what becomes of them. No condition.
-/
import Derived.BigGuard
import Derived.Test.YtmaaniokfpkbjaaSom
set_option linter.unusedSimpArgs false
set_option linter.unusedVariables false
namespace Go.Proofs.Ytmaaniokfpkbjaa
open Go.RowKit

theorem ch_h (x : Hc) : 1 ≤ (ch x).h ∧ (ch x).h ≤ 40 := by unfold ch; dsimp only; omega
theorem ch_i (x : Hc) : 0 ≤ (ch x).i ∧ (ch x).i ≤ 49 := by unfold ch; dsimp only; omega
theorem rs_nil (q t b : Int) : rsO q t b [] = ([nw b t], 0) := by simp [rsO, rs1, fnd, aqB]
theorem st_one {ck : Int → Bool} {tg now b : Int} {x : Ca} (ha : x.a = b) (ho : opB x = true) : stO ck tg now b [x] = if ck x.g = true then ([mv tg now x], 0) else ([], 8) := by
  have hf : fnd b [x] = some 0 := by simp [fnd, fm, ha, ho, List.findIdx?_cons]
  unfold stO mvA
  rw [hf]
  rfl
theorem op_nw (b t : Int) : opB (nw b t) = true := by simp [opB, nw]
theorem rs_rej {q now b r d : Int} : rsO q now b [⟨b, r, d, 2⟩] = if wi now d q = true then ([], 8) else ([⟨b, r, d, 2⟩, nw b now], 0) := by
  have hf : fnd b [(⟨b, r, d, 2⟩ : Ca)] = none := by simp [fnd, fm, opB, List.findIdx?_cons]
  have ha : aqB q b now [(⟨b, r, d, 2⟩ : Ca)] = wi now d q := by simp [aqB, am, qtB]
  unfold rsO
  rw [hf]
  unfold rs1
  rw [ha]
  rfl
theorem fnd_two (b r d t : Int) : fnd b [(⟨b, r, d, 2⟩ : Ca), nw b t] = some 1 := by simp [fnd, fm, opB, nw, List.findIdx?_cons]
theorem tk_app (h n b r d : Int) : tkO h n [(⟨b, r, d, 1⟩ : Ca)] = [⟨b, r, d, 1⟩] := by simp [tkO, tk]
end Go.Proofs.Ytmaaniokfpkbjaa
