/-
  The statements' own account of who holds what: a map of holders by their addresses, beside a row that rises. No condition but those that each theorem names.
-/
import Derived.Test.YtafmcnnbeoffdaaTurnsWalk
import Derived.Maps.OwnSet
set_option linter.unusedSimpArgs false
set_option linter.unusedVariables false
namespace Go.Proofs.Ytafmcnnbeoffdaa
open Go.RowKit

/-- How an element reads: as itself. -/
def mR (v : Value) : Option (DataW Value × List MemPlace) := some (.held v, [])
theorem law29 : Maps.Keyed Try.prog 29 := Maps.int_keyed Try.underlying29
theorem wf_key {a : Int} (h0 : 0 ≤ a) (h1 : a < 4294967296) : (Lit.int .u32 a).wf = true := by
  simp [Lit.wf, IntKind.min, IntKind.max, IntKind.signed, IntKind.bits]; omega
theorem key29 {a : Int} (h0 : 0 ≤ a) (h1 : a < 4294967296) : keyOf Try.prog 29 (.int .u32 a) = some (.int .u32 a) := Maps.keyOf_int_mk Try.underlying29 (wf_key h0 h1)
theorem zero33 (w : World) : (zeroValue 33).run Try.prog w = .ok (hv zh) w := by kernel_rfl
/-- The map has just the row's holders. -/
structure Mp (ys : List Hr) (D : DataW Value) : Prop where
  tidy : Maps.Tidy D
  size : Maps.size D = ys.length
  has : ∀ a, Maps.has D (.int .u32 a) = isAt ys a
  at_ : ∀ a, D.atKey (.int .u32 a) (.held (hv zh)) = .held (hv (gt ys a))
theorem Mp.nil : Mp [] (.map []) := ⟨Maps.tidy_empty, rfl, fun a => by rfl, fun a => by rfl⟩
theorem isKey (a : Int) : WideAt.IsKeyLit (.int .u32 a) := by first | trivial | exact .inr (.inl ⟨_, _, rfl⟩) | simp [WideAt.IsKeyLit]
theorem Mp.put {ys : List Hr} {D : DataW Value} (h : Mp ys D) (hs : Srt ys) {g : Hr} (hi : isAt ys g.a = false) : Mp (ins ys g) (D.put (.int .u32 g.a) (.held (hv g))) := by
  refine ⟨h.tidy.put (isKey _) _, ?_, fun a => ?_, fun a => ?_⟩
  · rw [Maps.size_put h.tidy, h.has, hi, ins_length, h.size]
    simp
  · rw [(hs.ins_at hi a).1]
    by_cases e : a = g.a
    · subst e
      rw [Maps.has_put_same h.tidy.isMap (isKey _)]
      simp
    · rw [Maps.has_put_other (by intro e'; injection e' with _ e'; exact e e'), h.has, decide_eq_false e, Bool.false_or]
  · rw [(hs.ins_at hi a).2]
    by_cases e : a = g.a
    · subst e
      rw [Maps.atKey_put_same h.tidy.isMap (isKey _), if_pos rfl]
    · rw [Maps.atKey_put_other (by intro e'; injection e' with _ e'; exact e e'), h.at_, if_neg e]
theorem Mp.del {ys : List Hr} {D : DataW Value} (h : Mp ys D) (hs : Srt ys) {b : Int} (hi : isAt ys b = true) : Mp (Ytafmcnnbeoffdaa.del ys b) (D.del (.int .u32 b)) := by
  refine ⟨h.tidy.del _, ?_, fun a => ?_, fun a => ?_⟩
  · have h1 := Maps.size_del (k := .int .u32 b) h.tidy
    rw [h.has, hi, h.size, ← del_length hi] at h1
    simp at h1
    exact h1
  · rw [(hs.del_at hi a).1]
    by_cases e : a = b
    · subst e
      rw [Maps.has_del_same]
      simp
    · rw [Maps.has_del_other (by intro e'; injection e' with _ e'; exact e e'), h.has, decide_eq_false e, Bool.not_false, Bool.true_and]
  · rw [(hs.del_at hi a).2]
    by_cases e : a = b
    · subst e
      rw [Maps.atKey_del_same, if_pos rfl]
    · rw [Maps.atKey_del_other (by intro e'; injection e' with _ e'; exact e e'), h.at_, if_neg e]

section
variable {ops : Array Oper} {rest : List Oper} {o : Oper} {a : Act} {w : World} {Q : Exit → Act → World → Prop}
theorem at_look25 (m x : Operand) (hgd : o.guard = none) (ho : o.op = .lookup 25 m x true) (b n : Nat) (D : DataW Value) (ys : List Hr) (hown : w.ownsMap Try.prog 29 mR b n D) (hM : Mp ys D) (v : Int) (h0 : 0 ≤ v) (h1 : v < 4294967296) (G : Hr) (B : Bool) (hG : gt ys v = G) (hB : isAt ys v = B) (hm : a.eval m = .map (some b)) (hx : a.eval x = .int .u32 v)
    (h : wpList Try.prog ops Q rest (a.put o.dst (.tuple #[.agg #[.int .u32 G.a, .string G.T, .int .u8 G.m0, .int .u8 G.m1, .int .u8 G.m2, .int .u8 G.m3, .int .u8 G.m4, .int .u8 G.m5], .bool B])) w) : wpList Try.prog ops Q (o :: rest) a w := by
  refine wpList_lookup_own_ok w hgd m x 25 ho 29 33 law29 Try.underlying25 mR (zero33 w) (.held (hv zh)) [] rfl b n D hm hown (.int .u32 v) (.int .u32 v) hx (key29 h0 h1) ?_
  intro c ps hc
  rw [hM.at_, hG] at hc
  have hc2 : c = hv G := by
    unfold mR at hc
    injection hc with hc
    injection hc with hc _
    injection hc
  subst hc2
  rw [hM.has, hB]
  exact h
theorem at_len25 (m : Operand) (hgd : o.guard = none) (ho : o.op = .call { callee := .builtin .len, args := #[m], argTypes := #[25] }) (b n : Nat) (D : DataW Value) (ys : List Hr) (hown : w.ownsMap Try.prog 29 mR b n D) (hM : Mp ys D) (N : Nat) (hN : ys.length = N) (hm : a.eval m = .map (some b))
    (h : wpList Try.prog ops Q rest (a.put o.dst (.int .i64 (N : Int))) w) : wpList Try.prog ops Q (o :: rest) a w := by
  refine wpList_len_own w hgd m 25 ho 29 33 Try.underlying25 mR b n D hm hown ?_
  rw [hM.size, hN]
  exact h
theorem at_del25 (m x : Operand) (hgd : o.guard = none) (ho : o.op = .call { callee := .builtin .delete, args := #[m, x], argTypes := #[25, 29] }) (b n : Nat) (D : DataW Value) (hown : w.ownsMap Try.prog 29 mR b n D) (v : Int) (h0 : 0 ≤ v) (h1 : v < 4294967296) (hm : a.eval m = .map (some b)) (hx : a.eval x = .int .u32 v)
    (h : ∀ w', w'.ownsMap Try.prog 29 mR b n (D.del (.int .u32 v)) → w.mapTurned w' b → wpList Try.prog ops Q rest (a.put o.dst (.tuple #[])) w') : wpList Try.prog ops Q (o :: rest) a w :=
  wpList_delete_own w hgd m x 25 29 ho 33 law29 Try.underlying25 mR b n D hm hown (.int .u32 v) (.int .u32 v) hx (key29 h0 h1) h
theorem at_upd25 (m x y : Operand) (hgd : o.guard = none) (ho : o.op = .mapUpdate 25 m x y) (b n : Nat) (hn : n ≤ 1000) (D : DataW Value) (hown : w.ownsMap Try.prog 29 mR b n D) (v : Int) (G : Hr) (h0 : 0 ≤ v) (h1 : v < 4294967296) (hm : a.eval m = .map (some b)) (hx : a.eval x = .int .u32 v) (hy : a.eval y = hv G)
    (h : ∀ w', w'.ownsMap Try.prog 29 mR b (n + 1) (D.put (.int .u32 v) (.held (hv G))) → w.mapTurned w' b → wpList Try.prog ops Q rest (a.put o.dst undef) w') : wpList Try.prog ops Q (o :: rest) a w :=
  wpList_mapUpdate_in w hgd m x y 25 ho 29 33 law29 Try.underlying25 mR b n D hm hown (by unfold maxLen; omega) (.int .u32 v) (hv G) (.int .u32 v) hx hy (key29 h0 h1) (.held (hv G)) [] rfl h
theorem at_same33 (x y : Operand) (p : Hr) (hgd : o.guard = none) (ho : o.op = .binOp .neq 33 x y 33) (hx : a.eval x = hv p) (hy : a.eval y = hv p)
    (h : wpList Try.prog ops Q rest (a.put o.dst (.bool false)) w) : wpList Try.prog ops Q (o :: rest) a w :=
  at_neq33 x y p p hgd ho hx hy (by rw [eqh_self]; exact h)
end

/-- What no map's turning turns: cells. -/
theorem turned_cell {w w' : World} {b : Nat} (h : w.mapTurned w' b) {a : Addr} {v : Value} (hc : w.cell? a = some v) : w'.cell? a = some v := by
  have hne : a.block ≠ b := by
    intro e
    obtain ⟨es, clock, _, _, hb, _⟩ := h
    unfold World.cell? at hc
    rw [e, hb] at hc
    cases hc
  exact h.grown.cell hc (by simpa using hne)
theorem Hs.turned {w w' : World} {A : Option Addr} {xs : List Hr} {b : Nat} (h : Hs w A xs) (ht : w.mapTurned w' b) : Hs w' A xs := by
  refine ⟨h.1, fun q x hq => ?_⟩
  obtain ⟨hk, y, hy, hc⟩ := h.2 q x hq
  exact ⟨hk, y, hy, fun j v hv => turned_cell ht (hc j v hv)⟩
theorem below_turned {B : Nat} {w0 w w' : World} {b : Nat} (h : Below B w0 w) (ht : w.mapTurned w' b) (hb : B ≤ b) (hB : B ≤ w.heap.size) : Below B w0 w' :=
  h.grown ht.grown hB (fun k hk => by injection hk with hk; omega)
theorem own_below {w w' : World} {b n : Nat} {D : DataW Value} (h : w.ownsMap Try.prog 29 mR b n D) (hb : Below w.heap.size w w') : w'.ownsMap Try.prog 29 mR b n D :=
  h.kept (row := none) ⟨hb.os, hb.tape, hb.output, hb.size, fun k hk _ => hb.block k hk⟩ (by simp)

/-- The holder that a deed of HeldScript means. -/
def sh (a : Ac) : Hr := if 0 < a.an.size ∧ a.mc % 4 = 0 then ⟨near a.ad, a.an, st0 a.mc, 0, 0, 0, 0, st5 a.mc⟩ else hd a
theorem sh_a (a : Ac) : (sh a).a = near a.ad := by unfold sh; split <;> rfl
theorem sh_ok (a : Ac) (h : a.ok) : (sh a).ok := by
  unfold sh
  split
  · exact ⟨(near_in a.ad).1, (near_in a.ad).2, h.2.2.2⟩
  · exact hd_ok a
/-- The account and the row, side by side. -/
structure Sx (w : World) (b : Nat) (ys : List Hr) (D : DataW Value) (k : Nat) (wr : World) : Prop where
  srt : Srt ys
  may : ∀ x ∈ ys, mayB x.T = true
  le : ys.length ≤ 48
  mp : Mp ys D
  own : wr.ownsMap Try.prog 29 mR b k D
  base : w.heap.size ≤ b
  bel : Below w.heap.size w wr
theorem Sx.below {w wr w' : World} {b k : Nat} {ys : List Hr} {D : DataW Value} (h : Sx w b ys D k wr) (hb : Below wr.heap.size wr w') : Sx w b ys D k w' :=
  ⟨h.srt, h.may, h.le, h.mp, own_below h.own hb, h.base, h.bel.trans (hb.mono h.bel.size)⟩
theorem Sx.more {w wr : World} {b k : Nat} {ys : List Hr} {D : DataW Value} (h : Sx w b ys D k wr) : Sx w b ys D (k + 1) wr :=
  ⟨h.srt, h.may, h.le, h.mp, h.own.mono (by omega), h.base, h.bel⟩
theorem Sx.put {w wr w' : World} {b k : Nat} {ys : List Hr} {D : DataW Value} {g : Hr} (h : Sx w b ys D k wr) (he : putC ys g = 0) (ho : w'.ownsMap Try.prog 29 mR b (k + 1) (D.put (.int .u32 g.a) (.held (hv g)))) (ht : wr.mapTurned w' b) : Sx w b (ins ys g) (D.put (.int .u32 g.a) (.held (hv g))) (k + 1) w' := by
  obtain ⟨h1, h2, h3, _⟩ := put_zero he
  refine ⟨h.srt.ins h2, fun x hx => ?_, by rw [ins_length]; omega, h.mp.put h.srt h2, ho, h.base, below_turned h.bel ht h.base h.bel.size⟩
  rcases mem_ins.1 hx with rfl | hx
  · exact h3
  · exact h.may x hx
theorem Sx.del {w wr w' : World} {b k : Nat} {ys : List Hr} {D : DataW Value} {v : Int} (h : Sx w b ys D k wr) (he : isAt ys v = true) (ho : w'.ownsMap Try.prog 29 mR b k (D.del (.int .u32 v))) (ht : wr.mapTurned w' b) : Sx w b (Ytafmcnnbeoffdaa.del ys v) (D.del (.int .u32 v)) (k + 1) w' :=
  ⟨h.srt.del v, fun x hx => h.may x (del_sub hx), by have := del_length he; have := h.le; omega, h.mp.del h.srt he, ho.mono (by omega), h.base, below_turned h.bel ht h.base h.bel.size⟩
end Go.Proofs.Ytafmcnnbeoffdaa
