/-
  What is said of how an address is: the oldest do not matter; what is old; who is active. No condition but what each theorem says.
-/
import Derived.Test.YtpiieagdgickgaaSig
set_option linter.unusedSimpArgs false
set_option linter.unusedVariables false
namespace Go.Proofs.Ytpiieagdgickgaa
open Go.RowKit

theorem fr_drop (x : Cf) (ss : List Sg) (now : Int) (h0 : 0 ≤ x.c) (h : x.c + 1 < ss.length) : fr x (ss.drop 1) now = fr x ss now := by
  unfold fr
  rw [List.drop_drop, List.length_drop]
  have e : 1 + hd x (ss.length - 1) = hd x ss.length := by
    unfold hd
    rw [show max x.c 0 = x.c by omega]
    omega
  rw [e]
theorem oldB_drop (x : Cf) (ss : List Sg) (now : Int) (h : 1 < ss.length) : oldB x (ss.drop 1) now = oldB x ss now := by
  unfold oldB
  rw [List.getLast?_drop, if_neg (by omega)]
theorem stO_drop (x : Cf) (h : Option Mc) (ss : List Sg) (now : Int) (h0 : 0 ≤ x.c) (hl : x.c + 1 < ss.length) : stO x h (ss.drop 1) now = stO x h ss now := by
  unfold stO
  rw [fr_drop x ss now h0 hl, oldB_drop x ss now (by omega)]
theorem wi_old {now t n : Int} (h0 : 0 ≤ t) (h1 : t + n ≤ now) (h2 : now ≤ 1099511627776) (hn : 0 ≤ n) : wi now t n = false := by
  unfold wi si
  rw [cl_in (by omega) h2, cl_in h0 (by omega)]
  simp
  omega
theorem fr_old {x : Cf} {ss : List Sg} {now : Int} (ha : 0 ≤ x.a) (h : ∀ s ∈ ss, 0 ≤ s.t ∧ s.t + x.a ≤ now) (h2 : now ≤ 1099511627776) : fr x ss now = [] := by
  unfold fr fq
  rw [List.filter_eq_nil_iff]
  intro s hs
  obtain ⟨h0, h1⟩ := h s (List.mem_of_mem_drop hs)
  rw [wi_old h0 h1 h2 ha]
  simp
theorem st_free {x : Cf} {ss : List Sg} {now : Int} (ha : 0 ≤ x.a) (h : ∀ s ∈ ss, 0 ≤ s.t ∧ s.t + x.a ≤ now) (h2 : now ≤ 1099511627776) : stO x none ss now = 0 := by
  unfold stO
  rw [fr_old ha h h2]
  rfl
theorem st_planned {x : Cf} {now : Int} (hc : 1 ≤ x.c) : stO x (some zm) [] now = 1 := by
  have e : fr x [] now = [] := by unfold fr fq; simp
  unfold stO
  rw [e]
  simp only [sts, List.map_nil, List.filter_nil, apS, Bool.false_eq_true, if_false, anyO, List.any_nil, Bool.and_false, List.length_nil]
  rw [if_neg (by omega)]
  rfl
theorem st_stale {x : Cf} {ss : List Sg} {now : Int} {s : Sg} (hl : ss.getLast? = some s) (hc : 1 ≤ x.c) (ha : 0 ≤ x.a) (hab : x.a ≤ x.b) (h : ∀ s ∈ ss, 0 ≤ s.t ∧ s.t + x.a ≤ now) (hs : s.t + x.b ≤ now) (h2 : now ≤ 1099511627776) : stO x (some zm) ss now = 3 := by
  have hm := h s (List.mem_of_getLast? hl)
  have ho : oldB x ss now = true := by
    unfold oldB
    rw [hl]
    simp only
    rw [wi_old hm.1 hs h2 (by omega)]
    rfl
  unfold stO
  rw [fr_old ha h h2, ho]
  simp only [sts, List.map_nil, List.filter_nil, apS, Bool.false_eq_true, if_false, anyO, List.any_nil, Bool.and_false, List.length_nil]
  rw [if_neg (by omega)]
  rfl
theorem wi_new {now t n : Int} (h0 : 0 ≤ t) (h1 : t ≤ now) (h3 : now - t < n) (h2 : now ≤ 1099511627776) : wi now t n = true := by
  unfold wi si
  rw [cl_in (by omega) h2, cl_in h0 (by omega)]
  simp
  omega
theorem st_active {x : Cf} {n : Nat} {s : Sg} {now : Int} (h0 : 0 ≤ s.t) (h1 : s.t ≤ now) (h3 : now - s.t < x.a) (h2 : now ≤ 1099511627776) (hc : 0 ≤ x.c) (hn : x.c ≤ n) : stO x (some s.m) (List.replicate n s) now = 2 := by
  have e : fr x (List.replicate n s) now = List.replicate (n - hd x n) s := by
    unfold fr fq
    rw [List.drop_replicate, List.length_replicate, List.filter_replicate, wi_new h0 h1 h3 h2]
    rfl
  have hl : x.c ≤ (n - hd x n : Nat) := by
    unfold hd
    rw [show max x.c 0 = x.c by omega]
    omega
  generalize n - hd x n = K at *
  have e2 : sts (List.replicate K s) = if noB s.m then [] else List.replicate K s.m := by
    unfold sts
    rw [List.map_replicate, List.filter_replicate]
    cases noB s.m <;> simp
  have e3 : ∀ m, anyO (List.replicate K m) m = false := by
    intro m
    unfold anyO
    rw [List.any_eq_false]
    intro y hy
    rw [(List.mem_replicate.1 hy).2, eqm_self]
    simp
  have e4 : apS (sts (List.replicate K s)) = false := by
    rw [e2]
    cases noB s.m
    · cases K with
      | zero => rfl
      | succ K => exact e3 s.m
    · rfl
  have e5 : (!noB s.m && anyO (sts (List.replicate K s)) s.m) = false := by
    rw [e2]
    cases noB s.m
    · simpa using e3 s.m
    · rfl
  unfold stO
  rw [e, e4]
  simp only [Bool.false_eq_true, if_false, List.length_replicate]
  rw [e5, if_neg (by simp), if_pos hl]

/-- A variable with nine bytes. -/
structure Hb (W : World) (b : Nat) (y : Hc) : Prop where
  lt : b < W.heap.size
  c0 : W.cell? ⟨b, 0, none⟩ = some (.int .u8 y.a)
  c1 : W.cell? ⟨b, 1, none⟩ = some (.int .u8 y.b)
  c2 : W.cell? ⟨b, 2, none⟩ = some (.int .u8 y.c)
  c3 : W.cell? ⟨b, 3, none⟩ = some (.int .u8 y.d)
  c4 : W.cell? ⟨b, 4, none⟩ = some (.int .u8 y.e)
  c5 : W.cell? ⟨b, 5, none⟩ = some (.int .u8 y.f)
  c6 : W.cell? ⟨b, 6, none⟩ = some (.int .u8 y.g)
  c7 : W.cell? ⟨b, 7, none⟩ = some (.int .u8 y.h)
  c8 : W.cell? ⟨b, 8, none⟩ = some (.int .u8 y.i)
theorem hb_box (w : World) (y : Hc) : Hb (w.alloc (Hcx y)) w.heap.size y := ⟨by simp, by simp [Hcx], by simp [Hcx], by simp [Hcx], by simp [Hcx], by simp [Hcx], by simp [Hcx], by simp [Hcx], by simp [Hcx], by simp [Hcx]⟩
theorem Hb.below {W W' : World} {b : Nat} {y : Hc} (h : Hb W b y) (hb : Below W.heap.size W W') : Hb W' b y :=
  ⟨Nat.lt_of_lt_of_le h.lt hb.size, by rw [hb.cell (p := ⟨b, 0, none⟩) h.lt]; exact h.c0, by rw [hb.cell (p := ⟨b, 1, none⟩) h.lt]; exact h.c1, by rw [hb.cell (p := ⟨b, 2, none⟩) h.lt]; exact h.c2, by rw [hb.cell (p := ⟨b, 3, none⟩) h.lt]; exact h.c3,
    by rw [hb.cell (p := ⟨b, 4, none⟩) h.lt]; exact h.c4, by rw [hb.cell (p := ⟨b, 5, none⟩) h.lt]; exact h.c5, by rw [hb.cell (p := ⟨b, 6, none⟩) h.lt]; exact h.c6, by rw [hb.cell (p := ⟨b, 7, none⟩) h.lt]; exact h.c7, by rw [hb.cell (p := ⟨b, 8, none⟩) h.lt]; exact h.c8⟩
/-- The worlds that a region that only reads, and makes memory, may be in. -/
def Rg (w W : World) : Prop := ∃ p : Regrown, W = Sort.grow (redrawn w p.d) p.os
theorem below_rg {w W : World} (h : Rg w W) : Below w.heap.size w W := by
  obtain ⟨p, rfl⟩ := h
  exact below_regrown w p.d p.os
theorem quiet_load27 {ops : Array Oper} {rest : List Oper} {o : Oper} {a : Act} {C : World → Prop} {Q : Act → Prop} (x : Operand) (b : Nat) (p : Cf) (hr : ∀ W, C W → Cm W b p) (hw : Region.wanted o (yielded ops a.tmps) = true) (ho : o.op = .load 27 x) (hx : a.eval x = .pointer (some ⟨b, 0, none⟩)) (h : wpQuiet Try.prog ops C Q rest (a.put o.dst (cfv p))) : wpQuiet Try.prog ops C Q (o :: rest) a :=
  BigFrame.wpQuiet_want hw fun K hK => ⟨cfv p, fun W hC => by
    unfold Oper.quietAt execOp
    simp only [ho, hx, Sem.run_bind, Sem.run_pure, Result.andThen_ok, load27 (hr W hC).at]
    exact ⟨rfl, rfl⟩, hK _ h⟩
theorem ch_in (y : Hc) (h : y.Ok) : 1 ≤ (ch y).a ∧ (ch y).a ≤ 30 ∧ (ch y).a ≤ (ch y).b ∧ (ch y).b ≤ 89 ∧ 1 ≤ (ch y).c ∧ (ch y).c ≤ 6 := by
  have := h.a; have := h.b; have := h.c
  simp only [ch]
  omega
end Go.Proofs.Ytpiieagdgickgaa
