/-
  The statements' own account of who was seen when: a map of rows of sightings by their addresses, beside a row of addresses that rises. No condition but those that each theorem names.
-/
import Derived.Test.YtcnhagcmklgpkaaSom
import Derived.Maps.OwnSet
import Derived.Maps.Own
set_option linter.unusedSimpArgs false
set_option linter.unusedVariables false
namespace Go.Proofs.Ytcnhagcmklgpkaa
open Go.RowKit

/-- How an element reads: as itself. -/
def mR (v : Value) : Option (DataW Value × List MemPlace) := some (.held v, [])
theorem law30 : Maps.Keyed Try.prog 30 := Maps.int_keyed Try.underlying30
theorem wf_key {a : Int} (h0 : 0 ≤ a) (h1 : a < 4294967296) : (Lit.int .u32 a).wf = true := by
  simp [Lit.wf, IntKind.min, IntKind.max, IntKind.signed, IntKind.bits]; omega
theorem key30 {a : Int} (h0 : 0 ≤ a) (h1 : a < 4294967296) : keyOf Try.prog 30 (.int .u32 a) = some (.int .u32 a) := Maps.keyOf_int_mk Try.underlying30 (wf_key h0 h1)
theorem zero39 (w : World) : (zeroValue 39).run Try.prog w = .ok (.slice none 0 0) w := by kernel_rfl
theorem isKey (a : Int) : WideAt.IsKeyLit (.int .u32 a) := by first | trivial | exact .inr (.inl ⟨_, _, rfl⟩) | simp [WideAt.IsKeyLit]
/-- A slice's value that has these sightings. -/
def Sv (w : World) (ss : List Sg) (v : Value) : Prop := ∃ A c, v = .slice A ss.length c ∧ ss.length ≤ c ∧ c ≤ maxLen ∧ Rw eS w A ss
theorem Sv.below {w w' : World} {ss : List Sg} {v : Value} (h : Sv w ss v) (hb : Below w.heap.size w w') : Sv w' ss v := by
  obtain ⟨A, c, h1, h2, h3, h4⟩ := h
  exact ⟨A, c, h1, h2, h3, h4.below hb⟩
/-- What no map's turning turns: cells. -/
theorem turned_cell {w w' : World} {b : Nat} (h : w.mapTurned w' b) {a : Addr} {v : Value} (hc : w.cell? a = some v) : w'.cell? a = some v := by
  have hne : a.block ≠ b := by
    intro e
    obtain ⟨es, clock, _, _, hb, _⟩ := h
    unfold World.cell? at hc
    rw [e, hb] at hc
    cases hc
  exact h.grown.cell hc (by simpa using hne)
theorem Rw.turned {α : Type} {E : El α} {w w' : World} {A : Option Addr} {xs : List α} {b : Nat} (h : Rw E w A xs) (ht : w.mapTurned w' b) : Rw E w' A xs := h.cells_keep fun _ _ _ _ _ hc => turned_cell ht hc
theorem Sv.turned {w w' : World} {ss : List Sg} {v : Value} {b : Nat} (h : Sv w ss v) (ht : w.mapTurned w' b) : Sv w' ss v := by
  obtain ⟨A, c, h1, h2, h3, h4⟩ := h
  exact ⟨A, c, h1, h2, h3, h4.turned ht⟩
theorem Ks.turned {w w' : World} {A : Option Addr} {ps : List Kp} {b : Nat} (h : Ks w A ps) (ht : w.mapTurned w' b) : Ks w' A ps := by
  obtain ⟨xs, h1, h2, h3⟩ := h
  exact ⟨xs, h1, h2.turned ht, fun x hx => ⟨(h3 x hx).a0, (h3 x hx).a1, (h3 x hx).lies.turned ht, (h3 x hx).le, (h3 x hx).max⟩⟩
theorem below_turned {B : Nat} {w0 w w' : World} {b : Nat} (h : Below B w0 w) (ht : w.mapTurned w' b) (hb : B ≤ b) (hB : B ≤ w.heap.size) : Below B w0 w' :=
  h.grown ht.grown hB (fun k hk => by injection hk with hk; omega)
theorem own_below {w w' : World} {b n : Nat} {D : DataW Value} (h : w.ownsMap Try.prog 30 mR b n D) (hb : Below w.heap.size w w') : w'.ownsMap Try.prog 30 mR b n D :=
  h.kept (row := none) ⟨hb.os, hb.tape, hb.output, hb.size, fun k hk _ => hb.block k hk⟩ (by simp)
/-- The map has just the row's addresses, with their sightings. -/
structure Mq (w : World) (ys : List Kp) (D : DataW Value) : Prop where
  tidy : Maps.Tidy D
  size : Maps.size D = ys.length
  has : ∀ a, Maps.has D (.int .u32 a) = isAt ys a
  at_ : ∀ a, ∃ v, D.atKey (.int .u32 a) (.held (.slice none 0 0)) = .held v ∧ Sv w (sg ys a) v
theorem Mq.nil (w : World) : Mq w [] (.map []) := ⟨Maps.tidy_empty, rfl, fun a => by rfl, fun a => ⟨.slice none 0 0, rfl, none, 0, rfl, by simp [sg, isAt], by unfold maxLen; omega, by simp [sg, isAt, Rw.nil]⟩⟩
theorem Mq.below {w w' : World} {ys : List Kp} {D : DataW Value} (h : Mq w ys D) (hb : Below w.heap.size w w') : Mq w' ys D :=
  ⟨h.tidy, h.size, h.has, fun a => by obtain ⟨v, h1, h2⟩ := h.at_ a; exact ⟨v, h1, h2.below hb⟩⟩
theorem Mq.turned {w w' : World} {ys : List Kp} {D : DataW Value} {b : Nat} (h : Mq w ys D) (ht : w.mapTurned w' b) : Mq w' ys D :=
  ⟨h.tidy, h.size, h.has, fun a => by obtain ⟨v, h1, h2⟩ := h.at_ a; exact ⟨v, h1, h2.turned ht⟩⟩
theorem Mq.put {w : World} {ys : List Kp} {D : DataW Value} (h : Mq w ys D) (hs : Srt ys) {x : Int} {s : Sg} {v : Value} (hv : Sv w (kp (sg ys x) s) v) : Mq w (ins ys x s) (D.put (.int .u32 x) (.held v)) := by
  refine ⟨h.tidy.put (isKey _) _, ?_, fun a => ?_, fun a => ?_⟩
  · rw [Maps.size_put h.tidy, h.has, h.size, ins_length]
    cases isAt ys x <;> simp
  · rw [(hs.ins_at x s a).1]
    by_cases e : a = x
    · subst e
      rw [Maps.has_put_same h.tidy.isMap (isKey _)]
      simp
    · rw [Maps.has_put_other (by intro e'; injection e' with _ e'; exact e e'), h.has, decide_eq_false e, Bool.false_or]
  · rw [(hs.ins_at x s a).2]
    by_cases e : a = x
    · subst e
      rw [if_pos rfl]
      exact ⟨v, Maps.atKey_put_same h.tidy.isMap (isKey _) _ _, hv⟩
    · rw [if_neg e]
      obtain ⟨u, h1, h2⟩ := h.at_ a
      exact ⟨u, by rw [Maps.atKey_put_other (by intro e'; injection e' with _ e'; exact e e'), h1], h2⟩
/-- To delete what is not there does nothing. -/
theorem Mq.del {w : World} {ys : List Kp} {D : DataW Value} (h : Mq w ys D) {x : Int} (hi : isAt ys x = false) : Mq w ys (D.del (.int .u32 x)) := by
  refine ⟨h.tidy.del _, ?_, fun a => ?_, fun a => ?_⟩
  · have h1 := Maps.size_del (k := .int .u32 x) h.tidy
    rw [h.has, hi, h.size] at h1
    simpa using h1
  · by_cases e : a = x
    · subst e
      rw [Maps.has_del_same, hi]
    · rw [Maps.has_del_other (by intro e'; injection e' with _ e'; exact e e'), h.has]
  · by_cases e : a = x
    · subst e
      rw [sg_no hi]
      exact ⟨_, Maps.atKey_del_same .., none, 0, rfl, by simp, by unfold maxLen; omega, Rw.nil _ _⟩
    · obtain ⟨u, h1, h2⟩ := h.at_ a
      exact ⟨u, by rw [Maps.atKey_del_other (by intro e'; injection e' with _ e'; exact e e'), h1], h2⟩
/-- What a look into the map gives. -/
theorem run_look {w : World} {ys : List Kp} {D : DataW Value} {b n : Nat} (hown : w.ownsMap Try.prog 30 mR b n D) (h : Mq w ys D) (x : Int) (h0 : 0 ≤ x) (h1 : x < 4294967296) : ∃ v, (Instr.lookup 26 (.map (some b)) (.int .u32 x) false).run Try.prog w = .ok v w ∧ D.atKey (.int .u32 x) (.held (.slice none 0 0)) = .held v ∧ Sv w (sg ys x) v := by
  obtain ⟨v, ps, hrun, hv⟩ := hown.lookup law30 Try.underlying26 (zero39 w) (zd := .held (.slice none 0 0)) (zp := []) rfl (key30 h0 h1)
  obtain ⟨u, h2, h3⟩ := h.at_ x
  rw [h2] at hv
  have : v = u := by
    unfold mR at hv
    injection hv with hv
    injection hv with hv _
    injection hv
  subst this
  exact ⟨v, hrun, h2, h3⟩
section
variable {ops : Array Oper} {rest : List Oper} {o : Oper} {a : Act} {w : World} {Q : Exit → Act → World → Prop}
theorem at_look26 (m x : Operand) (hgd : o.guard = none) (ho : o.op = .lookup 26 m x false) (b : Nat) (v : Value) (X : Int) (hr : (Instr.lookup 26 (.map (some b)) (.int .u32 X) false).run Try.prog w = .ok v w) (hm : a.eval m = .map (some b)) (hx : a.eval x = .int .u32 X)
    (h : wpList Try.prog ops Q rest (a.put o.dst v) w) : wpList Try.prog ops Q (o :: rest) a w :=
  wpList_plain hgd fun _ hK => by
    unfold Oper.wp execOp
    simp only [ho, hm, hx, Sem.run_bind, Sem.run_pure, Result.andThen_ok, hr]
    exact hK _ _ h
theorem at_len26 (m : Operand) (hgd : o.guard = none) (ho : o.op = .call { callee := .builtin .len, args := #[m], argTypes := #[26] }) (b n : Nat) (D : DataW Value) (ys : List Kp) (hown : w.ownsMap Try.prog 30 mR b n D) (hM : Mq w ys D) (N : Nat) (hN : ys.length = N) (hm : a.eval m = .map (some b))
    (h : wpList Try.prog ops Q rest (a.put o.dst (.int .i64 (N : Int))) w) : wpList Try.prog ops Q (o :: rest) a w := by
  refine wpList_len_own w hgd m 26 ho 30 39 Try.underlying26 mR b n D hm hown ?_
  rw [hM.size, hN]
  exact h
theorem at_del26 (m x : Operand) (hgd : o.guard = none) (ho : o.op = .call { callee := .builtin .delete, args := #[m, x], argTypes := #[26, 30] }) (b n : Nat) (D : DataW Value) (hown : w.ownsMap Try.prog 30 mR b n D) (v : Int) (h0 : 0 ≤ v) (h1 : v < 4294967296) (hm : a.eval m = .map (some b)) (hx : a.eval x = .int .u32 v)
    (h : ∀ w', w'.ownsMap Try.prog 30 mR b n (D.del (.int .u32 v)) → w.mapTurned w' b → wpList Try.prog ops Q rest (a.put o.dst (.tuple #[])) w') : wpList Try.prog ops Q (o :: rest) a w :=
  wpList_delete_own w hgd m x 26 30 ho 39 law30 Try.underlying26 mR b n D hm hown (.int .u32 v) (.int .u32 v) hx (key30 h0 h1) h
theorem at_upd26 (m x y : Operand) (hgd : o.guard = none) (ho : o.op = .mapUpdate 26 m x y) (b n : Nat) (hn : n ≤ 1000) (D : DataW Value) (hown : w.ownsMap Try.prog 30 mR b n D) (v : Int) (G : Value) (h0 : 0 ≤ v) (h1 : v < 4294967296) (hm : a.eval m = .map (some b)) (hx : a.eval x = .int .u32 v) (hy : a.eval y = G)
    (h : ∀ w', w'.ownsMap Try.prog 30 mR b (n + 1) (D.put (.int .u32 v) (.held G)) → w.mapTurned w' b → wpList Try.prog ops Q rest (a.put o.dst undef) w') : wpList Try.prog ops Q (o :: rest) a w :=
  wpList_mapUpdate_in w hgd m x y 26 ho 30 39 law30 Try.underlying26 mR b n D hm hown (by unfold maxLen; omega) (.int .u32 v) G (.int .u32 v) hx hy (key30 h0 h1) (.held G) [] rfl h
end
end Go.Proofs.Ytcnhagcmklgpkaa
