/-
  One field of a variable of one's own is stored. No condition.
-/
import Derived.Test.YtegbdagmnibfmaaDoorWrd
import Derived.Test.YtegbdagmnibfmaaDoorCut
set_option linter.unusedSimpArgs false
set_option linter.unusedVariables false
namespace Go.Proofs.YtegbdagmnibfmaaDoor
open Go.RowKit

theorem run_storeVar_sc (w : World) (b o : Nat) (ty : TypeId) (v : Value) (hv : v.cells = #[v]) (ht : w.there b o 1) (hi : (Tryd.prog.info? ty).map (·.size) = some 1) (h1 : v.oneCell' = true) :
    (storeVar ty ⟨b, o, none⟩ v).run Tryd.prog w = .ok () (w.setCells b o [v]) := by
  have := run_storeCells_cells (P := Tryd.prog) b o [v] 0 w (fun j hj => by simpa using (ht j (by simpa using hj)).1) (fun j hj => by simpa using (ht j (by simpa using hj)).2)
    (fun u hu => by simp at hu; rw [hu]; exact h1)
  cases hq : Tryd.prog.info? ty with
  | none => simp [hq] at hi
  | some i =>
    have hs : i.size = 1 := by simpa [hq] using hi
    simp only [Nat.add_zero] at this
    simp [storeVar, sizeOf, typeInfo, hq, hv, hs, this]
/-- A field of one cell is stored. -/
theorem at_put1 {ops : Array Oper} {rest : List Oper} {o : Oper} {a : Act} {w : World} {Q : Exit → Act → World → Prop} (T : TypeId) (x y : Operand) (b : Nat) (p : List Value) (u v : Value) (s : List Value) (H : Cx w b (p ++ (u :: s)))
    (hsz : (Tryd.prog.info? T).map (·.size) = some 1) (hv : v.cells = #[v]) (h1 : v.oneCell' = true) (hgd : o.guard = none) (ho : o.op = .store T x y) (hx : a.eval x = .pointer (some ⟨b, p.length, none⟩)) (hy : a.eval y = v)
    (h : ∀ w', Hid (Cx w' b (p ++ (v :: s))) → Hid (∀ B, B ≤ b → Below B w w') → Hid (∀ k, k ≠ b → w'.heap[k]? = w.heap[k]?) → wpList Tryd.prog ops Q rest (a.put o.dst undef) w') : wpList Tryd.prog ops Q (o :: rest) a w :=
  wpList_plain hgd fun _ hK => by
    unfold Oper.wp execOp
    simp only [ho, hx, hy, Instr.storeAt, Instr.sureAddr, Sem.run_bind, Sem.run_pure, Result.andThen_ok, run_storeVar_sc w b p.length T v hv (fun j hj => by have := H.2 (p.length + j) (by simp; omega); rwa [Nat.zero_add] at this) hsz h1]
    exact hK _ _ (h _ (Cx.put (old := [u]) [v] H rfl) (fun _ hB => below_put hB _ _ _ (Below.refl _ _)) (setCells_other b _ _ _))
theorem size9 : (Tryd.prog.info? 9).map (·.size) = some 1 := by kernel_rfl
theorem size29 : (Tryd.prog.info? 29).map (·.size) = some 1 := by kernel_rfl
theorem size30 : (Tryd.prog.info? 30).map (·.size) = some 1 := by kernel_rfl
/-- The kind that the first k words tell. -/
def kb (s : ByteArray) (k : Nat) : Int := if knd s < (k : Int) then knd s else 0
theorem kb_zero (s : ByteArray) : kb s 0 = 0 := by unfold kb; have := knd_bd s; split <;> omega
theorem kb_8 (s : ByteArray) : kb s 8 = knd s := by unfold kb; have := knd_bd s; rw [if_pos (by omega)]
theorem kn_back {s : ByteArray} {k : Int} (h : knd s = k) (h0 : k ≠ 0) : (nm k).toList = s.toList := by
  unfold knd at h
  repeat' split at h
  all_goals (rename_i e; subst h; first | exact absurd rfl h0 | (rw [eq_of_beq e]; first | exact nm1 | exact nm2 | exact nm3 | exact nm4 | exact nm6 | exact nm7))
theorem kb_skip (s : ByteArray) (k : Nat) (hk : k < 8) (he : (nm (k : Int)).toList.isEmpty = true) : kb s (k + 1) = kb s k := by
  have hb := knd_bd s
  have hne : knd s ≠ (k : Int) ∨ k = 0 := by
    by_cases h : k = 0
    · exact .inr h
    · refine .inl fun e => ?_
      rcases (show k = 1 ∨ k = 2 ∨ k = 3 ∨ k = 4 ∨ k = 5 ∨ k = 6 ∨ k = 7 by omega) with rfl | rfl | rfl | rfl | rfl | rfl | rfl
      · rw [show ((1 : Nat) : Int) = 1 from rfl, nm1] at he; cases he
      · rw [show ((2 : Nat) : Int) = 2 from rfl, nm2] at he; cases he
      · rw [show ((3 : Nat) : Int) = 3 from rfl, nm3] at he; cases he
      · rw [show ((4 : Nat) : Int) = 4 from rfl, nm4] at he; cases he
      · exact hb.2.2 e
      · rw [show ((6 : Nat) : Int) = 6 from rfl, nm6] at he; cases he
      · rw [show ((7 : Nat) : Int) = 7 from rfl, nm7] at he; cases he
  unfold kb
  rcases hne with h | h
  · by_cases e : knd s < (k : Int)
    · rw [if_pos e, if_pos (by omega)]
    · rw [if_neg e, if_neg (by omega)]
  · subst h
    by_cases e : knd s < ((0 + 1 : Nat) : Int)
    · rw [if_pos e, if_neg (by omega)]; omega
    · rw [if_neg e, if_neg (by omega)]
theorem kb_miss (s : ByteArray) (k : Nat) (hk : k < 8) (h : ((nm (k : Int)).toList == s.toList) = false) : kb s (k + 1) = kb s k := by
  by_cases hk0 : k = 0
  · exact kb_skip s k hk (by subst hk0; rw [show ((0 : Nat) : Int) = 0 from rfl, nm0]; rfl)
  · have hne : knd s ≠ (k : Int) := fun e => by
      have := kn_back e (by omega)
      rw [this] at h
      simp at h
    unfold kb
    by_cases e : knd s < (k : Int)
    · rw [if_pos e, if_pos (by omega)]
    · rw [if_neg e, if_neg (by omega)]
theorem kb_hit (s : ByteArray) (k : Nat) (hk : k < 8) (he : (nm (k : Int)).toList.isEmpty = false) (h : ((nm (k : Int)).toList == s.toList) = true) : kb s (k + 1) = (k : Int) := by
  have e := eq_of_beq h
  have := kn_hit (s := s) (k := (k : Int)) (by omega) (by omega) (by rw [← e]; exact he) (by rw [← e]; simp)
  unfold kb
  rw [this.1, if_pos (by omega)]
end Go.Proofs.YtegbdagmnibfmaaDoor
