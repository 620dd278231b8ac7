/-
  What the statements' own model wants: a choice read in a region, rows cut short, fields of a row's element that are written. No condition.
-/
import Derived.BigGuard
import Derived.Test.YtmaaniokfpkbjaaDoo
set_option linter.unusedSimpArgs false
set_option linter.unusedVariables false
namespace Go.Proofs.Ytmaaniokfpkbjaa
open Go.RowKit

section
variable {ops : Array Oper} {rest : List Oper} {o : Oper} {a : Act} {C : World → Prop} {Q : Act → Prop}
theorem quiet_load27 (x : Operand) (y : Addr) (z : Cf) (hr : ∀ W, C W → ∀ j v, (cfl z)[j]? = some v → W.cell? (y.add j) = some v) (hw : Region.wanted o (yielded ops a.tmps) = true) (ho : o.op = .load 27 x) (hx : a.eval x = .pointer (some y)) (h : wpQuiet Try.prog ops C Q rest (a.put o.dst (.agg #[.int .i64 z.a, .int .i64 z.b, .int .i64 z.c, .int .i64 z.d, .int .i64 z.e, .int .i64 z.f, .int .i64 z.g, .int .i64 z.h, .int .i64 z.i]))) : wpQuiet Try.prog ops C Q (o :: rest) a :=
  BigFrame.wpQuiet_want hw fun K hK => ⟨.agg #[.int .i64 z.a, .int .i64 z.b, .int .i64 z.c, .int .i64 z.d, .int .i64 z.e, .int .i64 z.f, .int .i64 z.g, .int .i64 z.h, .int .i64 z.i], fun W hC => by
    unfold Oper.quietAt execOp
    simp only [ho, hx, Sem.run_bind, Sem.run_pure, Result.andThen_ok, load27 (hr W hC)]
    exact ⟨rfl, rfl⟩, hK _ h⟩
end
theorem fnd_step {a : Int} {xs : List Ca} {k : Nat} {x : Ca} (hx : xs[k]? = some x) : fnd a (xs.take (k + 1)) = (fnd a (xs.take k)).or (if fm a x = true then some k else none) := by
  cases hf : fnd a (xs.take k) with
  | none => rw [fnd_take hf hx]; simp
  | some i =>
    unfold fnd at *
    rw [List.take_add_one, hx, List.findIdx?_append, hf]
    rfl
/-- A row of the call's own, cut short. -/
theorem own_short {w : World} {base g L c : Nat} {ys : List Ca} (h : w.ownsRow base 37 4 (.slice (some ⟨g, 0, none⟩) L c) L (eA.cs ys)) (hl : ys.length = L) {p : Nat} (hp : p ≤ L) : w.ownsRow base 37 4 (.slice (some ⟨g, 0, none⟩) p c) p (eA.cs (ys.take p)) := by
  have e : eA.cs ys = eA.cs (ys.take p) ++ eA.cs (ys.drop p) := by rw [← cs_append, List.take_append_drop]
  have ht : (ys.take p).length = p := by rw [List.length_take]; omega
  have hn : eA.N = 4 := rfl
  refine ⟨by rw [cs_length, ht, hn], ?_⟩
  rcases h.2 with ⟨e1, -⟩ | ⟨g', c', cur, e1, hb, hg, hle, hm, hs, ht'⟩
  · cases e1
  · injection e1 with e1 e2 e3
    injection e1 with e1
    injection e1 with e1
    subst e1 e3
    refine .inr ⟨g, c, cur, rfl, hb, hg, by omega, hm, hs, ?_⟩
    have hl2 : (eA.cs (ys.take p)).length = p * 4 := by rw [cs_length, ht, hn]
    have h3 : cur.toList.take (p * 4) = (cur.toList.take (L * 4)).take (p * 4) := by rw [List.take_take, Nat.min_eq_left (by omega)]
    rw [h3, ht', e, ← hl2, List.take_left']
    rfl
theorem cs_set3 : ∀ (ys : List Ca) (i : Nat) (x : Ca) (t : Int), ys[i]? = some x → (eA.cs ys).set (i * 4 + 3) (.int .i64 t) = eA.cs (ys.set i ⟨x.a, x.r, x.d, t⟩)
  | [], i, x, t, h => by simp at h
  | y :: r, 0, x, t, h => by simp at h; subst h; simp [El.cs, eA, cal]
  | y :: r, i + 1, x, t, h => by
    have ih := cs_set3 r i x t (by simpa using h)
    have e : eA.cs (y :: r) = cal y ++ eA.cs r := rfl
    have e2 : eA.cs ((y :: r).set (i + 1) ⟨x.a, x.r, x.d, t⟩) = cal y ++ eA.cs (r.set i ⟨x.a, x.r, x.d, t⟩) := rfl
    have hl : (cal y).length = 4 := rfl
    rw [e, e2, ← ih, List.set_append_right _ _ (by rw [hl]; omega), hl, show (i + 1) * 4 + 3 - 4 = i * 4 + 3 by omega]
theorem cs_set2 : ∀ (ys : List Ca) (i : Nat) (x : Ca) (t : Int), ys[i]? = some x → (eA.cs ys).set (i * 4 + 2) (.int .i64 t) = eA.cs (ys.set i ⟨x.a, x.r, t, x.g⟩)
  | [], i, x, t, h => by simp at h
  | y :: r, 0, x, t, h => by simp at h; subst h; simp [El.cs, eA, cal]
  | y :: r, i + 1, x, t, h => by
    have ih := cs_set2 r i x t (by simpa using h)
    have e : eA.cs (y :: r) = cal y ++ eA.cs r := rfl
    have e2 : eA.cs ((y :: r).set (i + 1) ⟨x.a, x.r, t, x.g⟩) = cal y ++ eA.cs (r.set i ⟨x.a, x.r, t, x.g⟩) := rfl
    have hl : (cal y).length = 4 := rfl
    rw [e, e2, ← ih, List.set_append_right _ _ (by rw [hl]; omega), hl, show (i + 1) * 4 + 2 - 4 = i * 4 + 2 by omega]
theorem own_f {w : World} {base g L c : Nat} {ys : List Ca} (h : w.ownsRow base 37 4 (.slice (some ⟨g, 0, none⟩) L c) L (eA.cs ys)) (hn : ys.length ≤ 140737488355328) {i : Nat} {x : Ca} (hx : ys[i]? = some x) : w.cell? ⟨g, i * 4 + 2, none⟩ = some (.int .i64 x.d) ∧ w.cell? ⟨g, i * 4 + 3, none⟩ = some (.int .i64 x.g) := by
  have h2 := own_at h hn hx 2 _ rfl
  have h3 := own_at h hn hx 3 _ rfl
  rw [Addr.add_mid] at h2 h3
  exact ⟨h2, h3⟩

end Go.Proofs.Ytmaaniokfpkbjaa
