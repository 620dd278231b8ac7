/-
  What ProbeScript's walk carries from deed to deed, and what it needs of a row. Conditions: those that each theorem names.
-/
import Derived.Test.YtjjbkhelnmdfnaaRightWalk
import Derived.Test.YtjjbkhelnmdfnaaLsm
import Derived.Test.YtjjbkhelnmdfnaaTl
set_option linter.unusedSimpArgs false
set_option linter.unusedVariables false
namespace Go.Proofs.Ytjjbkhelnmdfnaa
open Go.RowKit

/-- Which one of the first questions is to an address; -1: none. -/
def Pa (ss : List Pr) (j : Nat) (b u : Int) : Prop := (u = -1 ∧ toB (ss.take j) b = false) ∨ ∃ (m : Nat) (z : Pr), u = m ∧ m < j ∧ ss[m]? = some z ∧ z.a = b
theorem pa_zero (ss : List Pr) (b : Int) : Pa ss 0 b (-1) := .inl ⟨rfl, by simp [toB]⟩
theorem pa_yes {ss : List Pr} {j : Nat} {b : Int} {z : Pr} (hz : ss[j]? = some z) (h : (z.a == b) = true) : Pa ss (j + 1) b j := .inr ⟨j, z, rfl, Nat.lt_succ_self _, hz, by simpa using h⟩
theorem pa_no {ss : List Pr} {j : Nat} {b u : Int} {z : Pr} (hp : Pa ss j b u) (hz : ss[j]? = some z) (h : (z.a == b) = false) : Pa ss (j + 1) b u := by
  rcases hp with ⟨h1, h2⟩ | ⟨m, y, h1, h2, h3, h4⟩
  · exact .inl ⟨h1, by rw [to_take hz, h2, h]; rfl⟩
  · exact .inr ⟨m, y, h1, by omega, h3, h4⟩
theorem mat_no {ss : List Pr} {p : Pk} (h : toB ss p.f = false) : matC ss p = 7 ∧ matR ss p = [] := by
  have := plc_no (p := p) h
  unfold matC matR
  rw [this]
  exact ⟨rfl, rfl⟩
theorem mat_yes {ss : List Pr} (hv : V ss) {p : Pk} {m : Nat} {z : Pr} (hz : ss[m]? = some z) (ha : z.a = p.f) (hi : p.i = p.f % 65536) (h1 : p.a = true) (h2 : z.s = p.s) : matC ss p = 0 ∧ matR ss p = del ss m := by
  have := plc_at hv hz ha hi
  rw [if_pos ⟨h1, h2⟩] at this
  unfold matC matR
  rw [this]
  exact ⟨rfl, rfl⟩
theorem mat_not {ss : List Pr} (hv : V ss) {p : Pk} {m : Nat} {z : Pr} (hz : ss[m]? = some z) (ha : z.a = p.f) (hi : p.i = p.f % 65536) (h : ¬ (p.a = true ∧ z.s = p.s)) : matC ss p = 7 ∧ matR ss p = [] := by
  have := plc_at hv hz ha hi
  rw [if_neg h] at this
  unfold matC matR
  rw [this]
  exact ⟨rfl, rfl⟩
theorem Kb.fr2 {w : World} {b : Nat} {x : Pk} (h : Kb w b x) (j : Nat) (hj : j < 11) : w.frozen? ⟨b, j, none⟩ = false := by
  have := (h.2 j hj).2
  rwa [Nat.zero_add] at this
theorem Kb.set10 {w : World} {b : Nat} {x : Pk} (h : Kb w b x) (m : Int) : Kb (w.setCell ⟨b, 10, none⟩ (.int .i64 m)) b ⟨x.a, x.f, x.t, x.m0, x.m1, x.m2, x.m3, x.m4, x.m5, x.i, m⟩ := by
  refine ⟨fun j v hv => ?_, World.there_setCells h.2 b 10 [.int .i64 m]⟩
  match j, hv with
  | 0, hv => rw [World.cell?_setCell_other _ _ _ _ (by simp)]; exact h.1 0 v hv
  | 1, hv => rw [World.cell?_setCell_other _ _ _ _ (by simp)]; exact h.1 1 v hv
  | 2, hv => rw [World.cell?_setCell_other _ _ _ _ (by simp)]; exact h.1 2 v hv
  | 3, hv => rw [World.cell?_setCell_other _ _ _ _ (by simp)]; exact h.1 3 v hv
  | 4, hv => rw [World.cell?_setCell_other _ _ _ _ (by simp)]; exact h.1 4 v hv
  | 5, hv => rw [World.cell?_setCell_other _ _ _ _ (by simp)]; exact h.1 5 v hv
  | 6, hv => rw [World.cell?_setCell_other _ _ _ _ (by simp)]; exact h.1 6 v hv
  | 7, hv => rw [World.cell?_setCell_other _ _ _ _ (by simp)]; exact h.1 7 v hv
  | 8, hv => rw [World.cell?_setCell_other _ _ _ _ (by simp)]; exact h.1 8 v hv
  | 9, hv => rw [World.cell?_setCell_other _ _ _ _ (by simp)]; exact h.1 9 v hv
  | 10, hv =>
    simp [pkl] at hv
    subst hv
    exact World.cell?_setCell_same _ _ _ (h.1 10 _ rfl)
  | j + 11, hv => simp [pkl] at hv
/-- An append, as an operation. -/
theorem exec_append {a : Act} {o : Oper} {W W' : World} {v vs vx : Value} {S : TypeId} (s x : Operand) (ho : o.op = .call { callee := .builtin .append, args := #[s, x], argTypes := #[S, S] }) (hs : a.eval s = vs) (hx : a.eval x = vx)
    (hr : (Builtin.append_ #[S, S] o.type #[vs, vx]).run Try.prog W = .ok v W') : (execOp a.eval o).run Try.prog W = .ok (.value v) W' := by
  unfold execOp
  simp only [ho, resolve, invoke, builtin, Sem.run_bind, Sem.run_pure, Result.andThen_ok, List.map_toArray, List.map_cons, List.map_nil, hs, hx, hr]
/-- Questions appended to nothing. -/
theorem new_row (W : World) (ty : TypeId) (B : Nat) (hB : B ≤ W.heap.size) (A : Option Addr) (ys : List Pr) (c : Nat) (hr : Rw eP W A ys) (hl : ys.length ≤ 1000000000) :
    ∃ v W', (Builtin.append_ #[29, 29] ty #[.slice none 0 0, .slice A ys.length c]).run Try.prog W = .ok v W' ∧ Below W.heap.size W W' ∧ oF B ys v W' := by
  obtain ⟨v1, W1, hr1, ho1, hg1⟩ := run_append_rw tP W B ty (.slice none 0 0) 0 [] (World.ownsRow_nil _ _ _ _) A ys.length c ys rfl hr (by omega) hB
  refine ⟨v1, W1, hr1, (Below.refl _ W).grown hg1 (Nat.le_refl _) (by intro k hk; cases hk), ?_⟩
  show W1.ownsRow B 37 eP.N v1 ys.length (eP.cs ys)
  simpa using ho1
/-- The row, the deeds and the choice, from deed to deed. -/
structure Tx (w : World) (C : Cf) (bc : Nat) (B : Option Addr) (zs : List Ac) (ss : List Pr) (L : Nat) (A : Option Addr) (c : Nat) (wr : World) : Prop where
  v : V ss
  len : ss.length = L
  cap : L ≤ c
  row : Rw eP wr A ss
  acts : Rw eC wr B zs
  cm : Cm wr bc C
  bel : Below w.heap.size w wr
section
variable {w wr w' : World} {C : Cf} {bc : Nat} {B : Option Addr} {zs : List Ac} {ss ss' : List Pr} {L L' : Nat} {A A' : Option Addr} {c c' : Nat}
theorem Tx.below (h : Tx w C bc B zs ss L A c wr) (hb : Below wr.heap.size wr w') : Tx w C bc B zs ss L A c w' :=
  ⟨h.v, h.len, h.cap, h.row.below hb, h.acts.below hb, h.cm.below hb, h.bel.trans (hb.mono h.bel.size)⟩
theorem Tx.turn (h : Tx w C bc B zs ss L A c wr) (hv : V ss') (hl : ss'.length = L') (hc : L' ≤ c') (hr : Rw eP w' A' ss') (hb : Below wr.heap.size wr w') : Tx w C bc B zs ss' L' A' c' w' :=
  ⟨hv, hl, hc, hr, h.acts.below hb, h.cm.below hb, h.bel.trans (hb.mono h.bel.size)⟩
theorem Tx.right (h : Tx w C bc B zs ss L A c wr) (W : World) (hR : Rw eP W A ss) : Calls Try.prog 18 #[.slice A L c] W fun e w' => e = .returned (.bool true) ∧ Below W.heap.size W w' := by
  have := right_row A ss c W hR (by rw [h.len]; exact h.cap)
  rwa [(rg_iff ss).2 h.v.r, h.len] at this
theorem Tx.few (h : Tx w C bc B zs ss L A c wr) : L ≤ 16 := by have := h.v.r.few; have := h.len; omega
theorem Tx.drew (h : Tx w C bc B zs ss L A c wr) (n : Nat) : Tx w C bc B zs ss L A c (wr.drewN n) := h.below (bdrewN (Below.refl _ _) n)
end
end Go.Proofs.Ytjjbkhelnmdfnaa
