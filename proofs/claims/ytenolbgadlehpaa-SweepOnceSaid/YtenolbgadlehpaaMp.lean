/-
  The statements' own account of which addresses were seen: a map of bools. No condition but those that each theorem names.
-/
import Derived.Test.YtenolbgadlehpaaSom
import Derived.Maps.OwnSet
set_option linter.unusedSimpArgs false
set_option linter.unusedVariables false
namespace Go.Proofs.Ytenolbgadlehpaa
open Go.RowKit

/-- How an element reads: as itself. -/
def mR (v : Value) : Option (DataW Value × List MemPlace) := some (.held v, [])
theorem law34 : Maps.Keyed Try.prog 34 := Maps.int_keyed Try.underlying34
theorem wf_key {a : Int} (h0 : 0 ≤ a) (h1 : a < 4294967296) : (Lit.int .u32 a).wf = true := by
  simp [Lit.wf, IntKind.min, IntKind.max, IntKind.signed, IntKind.bits]; omega
theorem key34 {a : Int} (h0 : 0 ≤ a) (h1 : a < 4294967296) : keyOf Try.prog 34 (.int .u32 a) = some (.int .u32 a) := Maps.keyOf_int_mk Try.underlying34 (wf_key h0 h1)
theorem zero4 (w : World) : (zeroValue 4).run Try.prog w = .ok (.bool false) w := by kernel_rfl
/-- The map has just the row's addresses. -/
structure Mp (zs : List Int) (D : DataW Value) : Prop where
  tidy : Maps.Tidy D
  at_ : ∀ a, D.atKey (.int .u32 a) (.held (.bool false)) = .held (.bool (zs.contains a))
theorem Mp.nil : Mp [] (.map []) := ⟨Maps.tidy_empty, fun a => by rfl⟩
theorem isKey (a : Int) : WideAt.IsKeyLit (.int .u32 a) := by first | trivial | exact .inr (.inl ⟨_, _, rfl⟩) | simp [WideAt.IsKeyLit]
theorem Mp.put {zs : List Int} {D : DataW Value} (h : Mp zs D) (z : Int) : Mp (zs ++ [z]) (D.put (.int .u32 z) (.held (.bool true))) := by
  refine ⟨h.tidy.put (isKey _) _, fun a => ?_⟩
  by_cases e : a = z
  · subst e
    rw [Maps.atKey_put_same h.tidy.isMap (isKey _)]
    simp
  · rw [Maps.atKey_put_other (by intro e'; injection e' with _ e'; exact e e'), h.at_]
    simp [e]
section
variable {ops : Array Oper} {rest : List Oper} {o : Oper} {a : Act} {w : World} {Q : Exit → Act → World → Prop}
theorem at_look62 (m x : Operand) (hgd : o.guard = none) (ho : o.op = .lookup 62 m x false) (b n : Nat) (D : DataW Value) (zs : List Int) (hown : w.ownsMap Try.prog 34 mR b n D) (hM : Mp zs D) (v : Int) (h0 : 0 ≤ v) (h1 : v < 4294967296) (B : Bool) (hB : zs.contains v = B) (hm : a.eval m = .map (some b)) (hx : a.eval x = .int .u32 v)
    (h : wpList Try.prog ops Q rest (a.put o.dst (.bool B)) w) : wpList Try.prog ops Q (o :: rest) a w := by
  refine wpList_plain hgd fun K' hK' => ?_
  obtain ⟨c, ps, hrun, hv⟩ := hown.lookup law34 Try.underlying62 (zero4 w) (zd := .held (.bool false)) (zp := []) rfl (key34 h0 h1)
  rw [hM.at_, hB] at hv
  have hc : c = .bool B := by
    unfold mR at hv
    injection hv with hv
    injection hv with hv _
    injection hv
  subst hc
  unfold Oper.wp
  simp [execOp, ho, hm, hx, hrun, Result.andThen]
  exact hK' _ _ h
theorem at_upd62 (m x y : Operand) (hgd : o.guard = none) (ho : o.op = .mapUpdate 62 m x y) (b n : Nat) (hn : n ≤ 1000) (D : DataW Value) (hown : w.ownsMap Try.prog 34 mR b n D) (v : Int) (h0 : 0 ≤ v) (h1 : v < 4294967296) (hm : a.eval m = .map (some b)) (hx : a.eval x = .int .u32 v) (hy : a.eval y = .bool true)
    (h : ∀ w', w'.ownsMap Try.prog 34 mR b (n + 1) (D.put (.int .u32 v) (.held (.bool true))) → w.mapTurned w' b → wpList Try.prog ops Q rest (a.put o.dst undef) w') : wpList Try.prog ops Q (o :: rest) a w :=
  wpList_mapUpdate_in w hgd m x y 62 ho 34 4 law34 Try.underlying62 mR b n D hm hown (by unfold maxLen; omega) (.int .u32 v) (.bool true) (.int .u32 v) hx hy (key34 h0 h1) (.held (.bool true)) [] rfl h
end
/-- What no map's turning turns: cells. -/
theorem turned_cell {w w' : World} {b : Nat} (h : w.mapTurned w' b) {a : Addr} {v : Value} (hc : w.cell? a = some v) : w'.cell? a = some v := by
  have hne : a.block ≠ b := by
    intro e
    obtain ⟨es, clock, _, _, hb, _⟩ := h
    unfold World.cell? at hc
    rw [e, hb] at hc
    cases hc
  exact h.grown.cell hc (by simpa using hne)
theorem Rw.turned {α : Type} {E : El α} {w w' : World} {A : Option Addr} {xs : List α} {b : Nat} (h : Rw E w A xs) (ht : w.mapTurned w' b) : Rw E w' A xs :=
  h.cells_keep fun _ _ _ _ _ hc => turned_cell ht hc
theorem below_turned {B : Nat} {w0 w w' : World} {b : Nat} (h : Below B w0 w) (ht : w.mapTurned w' b) (hb : B ≤ b) (hB : B ≤ w.heap.size) : Below B w0 w' :=
  h.grown ht.grown hB (fun k hk => by injection hk with hk; omega)
theorem own_below {w w' : World} {b n : Nat} {D : DataW Value} (h : w.ownsMap Try.prog 34 mR b n D) (hb : Below w.heap.size w w') : w'.ownsMap Try.prog 34 mR b n D :=
  h.kept (row := none) ⟨hb.os, hb.tape, hb.output, hb.size, fun k hk _ => hb.block k hk⟩ (by simp)
end Go.Proofs.Ytenolbgadlehpaa
