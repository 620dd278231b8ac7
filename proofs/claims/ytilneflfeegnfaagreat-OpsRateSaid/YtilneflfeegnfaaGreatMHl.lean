/-
  Part of the proofs of layer 18: several texts in one file. No condition of its own.
-/
import Derived.Test.YtilneflfeegnfaaGreatProg
import Derived.WalkKit
import Derived.Lib.Strings
import Derived.WalkLawsBesides
import Derived.BigQuiet
import Derived.Deep.QuietTactic
import Derived.Deep.MidRow
import Derived.Deep.CutRange
import Derived.Deep.LoopGhost
import Derived.Deep.Slices
import Derived.Deep.OwnRows
import Derived.Deep.AppendLies
import Derived.Laws.OwnMore
import Derived.Laws.AppendOwn
import Derived.Laws.ResultCell
import Derived.Maps.AppendAt
import Derived.RegionTactic
import Derived.OwnWalk
import Derived.Lib.Hide
import Derived.Lib.MinMax
import Derived.Lib.QuietBelow
import Derived.StillTailTactics
import Derived.Test.YtilneflfeegnfaaGreatMG
/-
  A holder, and a row of holders, as plain data and in memory: what a load and a comparison of one do. No condition.
-/
set_option linter.unusedSimpArgs false
set_option linter.unusedVariables false
namespace Go.Proofs.YtilneflfeegnfaaGreat.Hl
open Go.RowKit

structure Hr where
  a : Int
  T : ByteArray
  m0 : Int
  m1 : Int
  m2 : Int
  m3 : Int
  m4 : Int
  m5 : Int
/-- What a process can have. -/
def Hr.ok (x : Hr) : Prop := 0 ≤ x.a ∧ x.a < 4294967296 ∧ x.T.size ≤ 9223372036854775807
def zh : Hr := ⟨0, ⟨#[]⟩, 0, 0, 0, 0, 0, 0⟩
theorem zh_ok : zh.ok := ⟨by decide, by decide, by decide⟩
/-- The cells of a holder, its value, a block with it. -/
def hl (x : Hr) : List Value := [.int .u32 x.a, .string x.T, .int .u8 x.m0, .int .u8 x.m1, .int .u8 x.m2, .int .u8 x.m3, .int .u8 x.m4, .int .u8 x.m5]
def hv (x : Hr) : Value := .agg #[.int .u32 x.a, .string x.T, .int .u8 x.m0, .int .u8 x.m1, .int .u8 x.m2, .int .u8 x.m3, .int .u8 x.m4, .int .u8 x.m5]
def Hx (x : Hr) : Obj := .cells #[.int .u32 x.a, .string x.T, .int .u8 x.m0, .int .u8 x.m1, .int .u8 x.m2, .int .u8 x.m3, .int .u8 x.m4, .int .u8 x.m5] 44
theorem hl_length (x : Hr) : (hl x).length = 8 := rfl
theorem hl_one (x : Hr) : ∀ u ∈ hl x, u.oneCell' = true := by
  intro u hu
  simp [hl] at hu
  rcases hu with rfl | rfl | rfl | rfl | rfl | rfl | rfl | rfl <;> rfl
def hcs (xs : List Hr) : List Value := xs.flatMap hl
theorem hcs_append (xs ys : List Hr) : hcs (xs ++ ys) = hcs xs ++ hcs ys := by simp [hcs]
theorem hcs_one (xs : List Hr) : ∀ u ∈ hcs xs, u.oneCell' = true := by
  intro u hu
  obtain ⟨r, _, h⟩ := List.mem_flatMap.1 hu
  exact hl_one r u h
theorem hcs_length (xs : List Hr) : (hcs xs).length = xs.length * 8 := by
  induction xs with
  | nil => rfl
  | cons x r ih => rw [hcs, List.flatMap_cons, List.length_append, ← hcs, ih, hl_length, List.length_cons]; omega
theorem hcs_at (xs : List Hr) : ∀ (q : Nat) (x : Hr) (j : Nat), xs[q]? = some x → j < 8 → (hcs xs)[q * 8 + j]? = (hl x)[j]? := by
  induction xs with
  | nil => intro q x j h; simp at h
  | cons y r ih =>
    intro q x j h hj
    rw [hcs, List.flatMap_cons, ← hcs]
    cases q with
    | zero =>
      simp at h
      subst h
      rw [List.getElem?_append_left (by rw [hl_length]; omega)]
      simp
    | succ q =>
      rw [List.getElem?_append_right (by rw [hl_length]; omega), hl_length, show (q + 1) * 8 + j - 8 = q * 8 + j by omega]
      exact ih q x j (by simpa using h) hj
/-- The holders that a slice's value has, wherever they lie. -/
def Hs (w : World) (A : Option Addr) (xs : List Hr) : Prop :=
  xs.length ≤ 140737488355328 ∧ ∀ (q : Nat) (x : Hr), xs[q]? = some x → x.ok ∧ ∃ y, A = some y ∧ ∀ j v, (hl x)[j]? = some v → w.cell? (y.add (q * 8 + j)) = some v
theorem Hs.nil (w : World) (A : Option Addr) : Hs w A [] := ⟨by simp, fun q x h => by simp at h⟩
theorem Hs.keep {w w' : World} {A : Option Addr} {xs : List Hr} {B : Nat} (h : Hs w A xs) (hb : Below B w w') (hB : ∀ y, A = some y → y.block < B) : Hs w' A xs := by
  refine ⟨h.1, fun q x hq => ?_⟩
  obtain ⟨hk, y, hy, hc⟩ := h.2 q x hq
  refine ⟨hk, y, hy, fun j v hv => (hb.cell (p := y.add (q * 8 + j)) ?_).trans (hc j v hv)⟩
  rw [show (y.add (q * 8 + j)).block = y.block by unfold Addr.add; split <;> rfl]
  exact hB y hy
theorem Hs.below {w w' : World} {A : Option Addr} {xs : List Hr} (h : Hs w A xs) (hb : Below w.heap.size w w') : Hs w' A xs := by
  refine ⟨h.1, fun q x hq => ?_⟩
  obtain ⟨hk, y, hy, hc⟩ := h.2 q x hq
  exact ⟨hk, y, hy, fun j v hv => (hb.cell (World.block_lt_of_cell? _ _ (hc j v hv))).trans (hc j v hv)⟩
theorem Hs.grown {w w' : World} {A : Option Addr} {xs : List Hr} {row : Option Nat} (h : Hs w A xs) (hg : w.grownBy w' row) (hne : ∀ x, A = some x → some x.block ≠ row) : Hs w' A xs := by
  refine ⟨h.1, fun q x hq => ?_⟩
  obtain ⟨hk, y, hy, hc⟩ := h.2 q x hq
  refine ⟨hk, y, hy, fun j v hv => hg.cell (hc j v hv) ?_⟩
  rw [show (y.add (q * 8 + j)).block = y.block by unfold Addr.add; split <;> rfl]
  exact hne y hy
theorem Hs.ok {w : World} {A : Option Addr} {xs : List Hr} (h : Hs w A xs) {q : Nat} {x : Hr} (hq : xs[q]? = some x) : x.ok := (h.2 q x hq).1
theorem hs_some {w : World} {A : Option Addr} {xs : List Hr} (h : Hs w A xs) (hn : 0 < xs.length) : ∃ y, A = some y := by
  obtain ⟨_, y, hy, _⟩ := h.2 0 xs[0] (List.getElem?_eq_getElem hn)
  exact ⟨y, hy⟩
theorem Hs.at {w : World} {y : Addr} {xs : List Hr} (h : Hs w (some y) xs) {q : Nat} {x : Hr} (hq : xs[q]? = some x) : ∀ j v, (hl x)[j]? = some v → w.cell? ((y.add (q * 8)).add j) = some v := by
  obtain ⟨_, y', hy, hc⟩ := h.2 q x hq
  injection hy with hy
  subst hy
  intro j v hv
  rw [Addr.add_add]
  exact hc j v hv
/-- All cells of the row, one behind the other. -/
theorem Hs.cells {w : World} {y : Addr} {xs : List Hr} (h : Hs w (some y) xs) : ∀ j u, (hcs xs)[j]? = some u → w.cell? (y.add j) = some u := by
  intro j u hu
  have hj : j < xs.length * 8 := by have := (List.getElem?_eq_some_iff.1 hu).1; rwa [hcs_length] at this
  have e : j = j / 8 * 8 + j % 8 := by omega
  have hq : j / 8 < xs.length := by omega
  have hx := List.getElem?_eq_getElem hq
  obtain ⟨_, y', hy, hc⟩ := h.2 (j / 8) _ hx
  injection hy with hy
  subst hy
  rw [e, hcs_at xs (j / 8) _ (j % 8) hx (by omega)] at hu
  rw [e]
  exact hc _ _ hu
/-- A part of the row. -/
theorem Hs.take {w : World} {A : Option Addr} {xs : List Hr} (h : Hs w A xs) (n : Nat) : Hs w A (xs.take n) := by
  refine ⟨by have := h.1; rw [List.length_take]; omega, fun q x hq => h.2 q x ?_⟩
  rw [List.getElem?_take] at hq
  split at hq
  · exact hq
  · cases hq
theorem Hs.drop {w : World} {y : Addr} {xs : List Hr} (h : Hs w (some y) xs) (n : Nat) : Hs w (some (y.add (n * 8))) (xs.drop n) := by
  refine ⟨by have := h.1; rw [List.length_drop]; omega, fun q x hq => ?_⟩
  rw [List.getElem?_drop] at hq
  obtain ⟨hk, y', hy, hc⟩ := h.2 (n + q) x hq
  injection hy with hy
  subst hy
  refine ⟨hk, _, rfl, fun j v hv => ?_⟩
  rw [Addr.add_add, show n * 8 + (q * 8 + j) = (n + q) * 8 + j by omega]
  exact hc j v hv
/-- A row of the call's own reads so. -/
theorem own_hs {w : World} {base : Nat} {v : Value} {n : Nat} {xs : List Hr} (h : w.ownsRow base 44 8 v n (hcs xs)) (hok : ∀ x ∈ xs, x.ok) (hn : xs.length ≤ 140737488355328) : ∃ A cap, v = .slice A xs.length cap ∧ xs.length ≤ cap ∧ cap ≤ maxLen ∧ n = xs.length ∧ Hs w A xs ∧ (∀ y, A = some y → base ≤ y.block ∧ y.block < w.heap.size) := by
  have hl := h.1
  rw [hcs_length] at hl
  have hnx : n = xs.length := by omega
  subst hnx
  rcases h.2 with ⟨rfl, h0⟩ | ⟨g, cap, cur, rfl, hb, hg, hle, hm, hs, ht⟩
  · have : xs = [] := List.eq_nil_of_length_eq_zero h0
    subst this
    exact ⟨none, 0, rfl, by simp, by unfold maxLen; omega, rfl, Hs.nil _ _, fun y e => by cases e⟩
  · refine ⟨some ⟨g, 0, none⟩, cap, rfl, hle, hm, rfl, ⟨hn, fun q x hq => ⟨hok x (List.mem_of_getElem? hq), _, rfl, fun j v hv => ?_⟩⟩, fun y e => by injection e with e; subst e; exact ⟨hb, (Array.getElem?_eq_some_iff.1 hg).1⟩⟩
    have hj : j < 8 := by have := (List.getElem?_eq_some_iff.1 hv).1; rwa [hl_length] at this
    refine h.cells (g := g) rfl _ _ ?_
    rw [hcs_at xs q x j hq hj]
    exact hv

theorem size33 : (Tryz.prog.info? 44).map (·.size) = some 8 := by kernel_rfl
theorem load33 {w : World} {y : Addr} {x : Hr} (h : ∀ j v, (hl x)[j]? = some v → w.cell? (y.add j) = some v) : (Instr.loadAt 44 (.pointer (some y))).run Tryz.prog w = .ok (hv x) w := by
  have hl' : (loadCells y 8).run Tryz.prog w = .ok (hl x).toArray w := run_loadCells_list (P := Tryz.prog) w y (hl x) h
  obtain ⟨i, hi, hs⟩ := Option.map_eq_some_iff.1 size33
  have hg : (isAgg 44).run Tryz.prog w = .ok true w := by
    unfold isAgg
    simp only [Sem.run_bind, run_underlying Tryz.underlying44, Result.andThen_ok, Sem.run_pure]
  have hz : (Go.sizeOf 44).run Tryz.prog w = .ok 8 w := by
    rw [← hs]
    simp [Go.sizeOf, typeInfo, hi]
  simp only [Instr.loadAt, Instr.sureAddr, loadVar, Sem.run_bind, Sem.run_pure, Result.andThen_ok, hg, hz, hl', if_true]
  rfl
theorem at_load33 {ops : Array Oper} {rest : List Oper} {op : Oper} {a : Act} {w : World} {Q : Exit → Act → World → Prop} (x : Operand) (hgd : op.guard = none) (ho : op.op = .load 44 x) (y : Addr) (z : Hr) (hx : a.eval x = .pointer (some y)) (hr : ∀ j v, (hl z)[j]? = some v → w.cell? (y.add j) = some v)
    (h : wpList Tryz.prog ops Q rest (a.put op.dst (.agg #[.int .u32 z.a, .string z.T, .int .u8 z.m0, .int .u8 z.m1, .int .u8 z.m2, .int .u8 z.m3, .int .u8 z.m4, .int .u8 z.m5])) w) : wpList Tryz.prog ops Q (op :: rest) a w :=
  wpList_plain hgd fun _ hK => by
    unfold Oper.wp execOp
    simp only [ho, hx, Sem.run_bind, Sem.run_pure, Result.andThen_ok, load33 hr]
    exact hK _ _ h
/-- Whether two holders are one. -/
def eqh (x y : Hr) : Bool := x.a == y.a && (x.T.data.toList == y.T.data.toList && (x.m0 == y.m0 && (x.m1 == y.m1 && (x.m2 == y.m2 && (x.m3 == y.m3 && (x.m4 == y.m4 && x.m5 == y.m5))))))
theorem eqh_iff (x y : Hr) : eqh x y = true ↔ x = y := by
  obtain ⟨a, T, m0, m1, m2, m3, m4, m5⟩ := x
  obtain ⟨b, U, n0, n1, n2, n3, n4, n5⟩ := y
  have e : T.data.toList = U.data.toList ↔ T = U := by
    constructor
    · intro h
      obtain ⟨⟨l⟩⟩ := T
      obtain ⟨⟨k⟩⟩ := U
      simp at h
      rw [h]
    · rintro rfl; rfl
  simp only [eqh, Bool.and_eq_true, beq_iff_eq, e, Hr.mk.injEq]
theorem eqh_self (x : Hr) : eqh x x = true := (eqh_iff x x).2 rfl
theorem run_eq33 (x y : Hr) (W : World) : (Op.equalIn 10000 44 (hv x) (hv y)).run Tryz.prog W = .ok (eqh x y) W := by
  have h6 := run_eq6 x.m0 x.m1 x.m2 x.m3 x.m4 x.m5 y.m0 y.m1 y.m2 y.m3 y.m4 y.m5 9997 W
  unfold hv
  rw [show (10000 : Nat) = 9999 + 1 from rfl, run_equalIn_struct W 9999 44 _ _ (by kernel_rfl) (by kernel_rfl)]
  simp [go_sem, part, h6]
  unfold eqh
  by_cases h1 : x.a = y.a
  · by_cases h2 : x.T.toList = y.T.toList
    · rw [if_pos h1, if_pos h2]
      have h2' : x.T.data.toList = y.T.data.toList := by simpa [ByteArray.toList_eq] using h2
      by_cases h3 : x.m0 = y.m0 ∧ x.m1 = y.m1 ∧ x.m2 = y.m2 ∧ x.m3 = y.m3 ∧ x.m4 = y.m4 ∧ x.m5 = y.m5
      · obtain ⟨g0, g1, g2, g3, g4, g5⟩ := h3
        simp [eq6, h1, h2', g0, g1, g2, g3, g4, g5]
      · have h3' : eq6 x.m0 x.m1 x.m2 x.m3 x.m4 x.m5 y.m0 y.m1 y.m2 y.m3 y.m4 y.m5 = false := decide_eq_false h3
        rw [h3']
        simp only [Bool.false_eq_true, if_true, if_false, Result.andThen_ok]
        refine congrArg (fun z => Result.ok z W) ?_
        symm
        rw [Bool.eq_false_iff]
        intro hc
        simp at hc
        exact h3 ⟨hc.2.2.1, hc.2.2.2.1, hc.2.2.2.2.1, hc.2.2.2.2.2.1, hc.2.2.2.2.2.2.1, hc.2.2.2.2.2.2.2⟩
    · rw [if_pos h1, if_neg h2]
      have h2' : ¬ x.T.data.toList = y.T.data.toList := by simpa [ByteArray.toList_eq] using h2
      have : (x.T.data.toList == y.T.data.toList) = false := by simpa using h2'
      rw [this]
      simp
  · rw [if_neg h1]
    simp [h1]
theorem run_eql33 (x y : Hr) (W : World) : (binOp .eql 44 (hv x) (hv y)).run Tryz.prog W = .ok (.bool (eqh x y)) W := by
  have := run_eql_struct (P := Tryz.prog) W 44 (hl x).toArray (hl y).toArray
  rw [show Value.agg (hl x).toArray = hv x from rfl, show Value.agg (hl y).toArray = hv y from rfl, run_eq33] at this
  exact this
theorem run_neq33 (x y : Hr) (W : World) : (binOp .neq 44 (hv x) (hv y)).run Tryz.prog W = .ok (.bool (!eqh x y)) W := by
  have := run_neq_struct (P := Tryz.prog) W 44 (hl x).toArray (hl y).toArray
  rw [show Value.agg (hl x).toArray = hv x from rfl, show Value.agg (hl y).toArray = hv y from rfl, run_eq33] at this
  exact this
theorem guard33 (op : BinOp) (p q : Operand) (x y : Hr) (W : World) : (eqGuard op 44 p q (hv x) (hv y)).run Tryz.prog W = .ok () W := run_eqGuard_agg W op 44 p q _ _ (by kernel_rfl)
section
variable {ops : Array Oper} {rest : List Oper} {o : Oper} {a : Act} {w : World} {Q : Exit → Act → World → Prop}
theorem at_neq33 (x y : Operand) (p q : Hr) (hgd : o.guard = none) (ho : o.op = .binOp .neq 44 x y 44) (hx : a.eval x = hv p) (hy : a.eval y = hv q)
    (h : wpList Tryz.prog ops Q rest (a.put o.dst (.bool (!eqh p q))) w) : wpList Tryz.prog ops Q (o :: rest) a w :=
  wpList_plain hgd fun _ hK => by
    unfold Oper.wp execOp
    simp only [ho, hx, hy, Sem.run_bind, Sem.run_pure, Result.andThen_ok, guard33, run_neq33]
    exact hK _ _ h
end
section
variable {ops : Array Oper} {rest : List Oper} {o : Oper} {a : Act} {C : World → Prop} {Q : Act → Prop}
theorem quiet_load33 (x : Operand) (y : Addr) (p : Hr) (hr : ∀ W, C W → ∀ j v, (hl p)[j]? = some v → W.cell? (y.add j) = some v) (hw : Region.wanted o (yielded ops a.tmps) = true) (ho : o.op = .load 44 x) (hx : a.eval x = .pointer (some y)) (h : wpQuiet Tryz.prog ops C Q rest (a.put o.dst (hv p))) : wpQuiet Tryz.prog ops C Q (o :: rest) a :=
  BigFrame.wpQuiet_want hw fun K hK => ⟨hv p, fun W hC => by
    unfold Oper.quietAt execOp
    simp only [ho, hx, Sem.run_bind, Sem.run_pure, Result.andThen_ok, load33 (hr W hC)]
    exact ⟨rfl, rfl⟩, hK _ h⟩
theorem quiet_neq33 (x y : Operand) (p q : Hr) (hw : Region.wanted o (yielded ops a.tmps) = true) (ho : o.op = .binOp .neq 44 x y 44) (hx : a.eval x = hv p) (hy : a.eval y = hv q) (h : wpQuiet Tryz.prog ops C Q rest (a.put o.dst (.bool (!eqh p q)))) : wpQuiet Tryz.prog ops C Q (o :: rest) a :=
  BigFrame.wpQuiet_want hw fun K hK => ⟨.bool (!eqh p q), fun W hC => by
    unfold Oper.quietAt execOp
    simp only [ho, hx, hy, Sem.run_bind, Sem.run_pure, Result.andThen_ok, guard33, run_neq33]
    exact ⟨rfl, rfl⟩, hK _ h⟩
end
end Go.Proofs.YtilneflfeegnfaaGreat.Hl

/-
  The contracts of held.ownerByte, held.May and the statements' own may. No condition but that texts are ones that a process can hold.
-/
set_option linter.unusedSimpArgs false
set_option linter.unusedVariables false
namespace Go.Proofs.YtilneflfeegnfaaGreat.Hl
open Go.RowKit

/-- Whether a byte is a small letter, or a digit. -/
def obB (c : Int) : Bool := decide (97 ≤ c ∧ c ≤ 122 ∨ 48 ≤ c ∧ c ≤ 57)
theorem ob_yes {c : Int} (h : 97 ≤ c ∧ c ≤ 122 ∨ 48 ≤ c ∧ c ≤ 57) : obB c = true := decide_eq_true h
theorem ob_no {c : Int} (h : ¬ (97 ≤ c ∧ c ≤ 122 ∨ 48 ≤ c ∧ c ≤ 57)) : obB c = false := decide_eq_false h
theorem ob_any (c : Int) (w : World) (h0 : 0 ≤ c) (h1 : c < 256) : Calls Tryz.prog 114 #[.int .u8 c] w fun e w' => e = .returned (.bool (obB c)) ∧ w' = w := by
  by_cases a : 97 ≤ c
  · by_cases b : c ≤ 122
    · have H := Lib.hid (ob_yes (c := c) (by omega))
      go_enter Tryz.func114, Tryz.ntmps114
      go_wp2_with fail
      go_ret
      exact ⟨by rw [H.out]; first | rfl | exact ret_bool (by simp; omega), rfl⟩
    · have H := Lib.hid (ob_no (c := c) (by omega))
      have b' : (c ≤ 57) = False := by simp; omega
      go_enter Tryz.func114, Tryz.ntmps114
      go_wp2_with fail
      go_ret
      exact ⟨by rw [H.out]; first | rfl | exact ret_bool (by simp; omega), rfl⟩
  · by_cases b : 48 ≤ c ∧ c ≤ 57
    · obtain ⟨b0, b1⟩ := b
      have H := Lib.hid (ob_yes (c := c) (by omega))
      go_enter Tryz.func114, Tryz.ntmps114
      go_wp2_with fail
      go_ret
      exact ⟨by rw [H.out]; first | rfl | exact ret_bool (by simp; omega), rfl⟩
    · have H := Lib.hid (ob_no (c := c) (by omega))
      by_cases b0 : 48 ≤ c
      · have b1 : 57 < c := by omega
        clear b
        go_enter Tryz.func114, Tryz.ntmps114
        go_wp2_with fail
        go_ret
        exact ⟨by rw [H.out]; first | rfl | exact ret_bool (by simp; omega), rfl⟩
      · clear b
        go_enter Tryz.func114, Tryz.ntmps114
        go_wp2_with fail
        go_ret
        exact ⟨by rw [H.out]; first | rfl | exact ret_bool (by simp; omega), rfl⟩
/-- The first k bytes may all be an owner's. -/
def obs (s : ByteArray) (k : Nat) : Bool := (s.data.toList.take k).all fun c => obB (c.toNat : Int)
theorem obs_zero (s : ByteArray) : obs s 0 = true := by simp [obs]
theorem obs_snoc (s : ByteArray) (k : Nat) (h : k < s.size) : obs s (k + 1) = (obs s k && obB (s[k].toNat : Int)) := by
  unfold obs
  rw [List.take_succ_eq_append_getElem (by simpa using h), List.all_append]
  simp
  rfl
theorem obs_false (s : ByteArray) (k n : Nat) (h : obs s k = false) (hk : k ≤ n) : obs s n = false := by
  unfold obs at h ⊢
  rw [Bool.eq_false_iff] at h ⊢
  intro hc
  apply h
  rw [List.all_eq_true] at hc ⊢
  intro x hx
  refine hc x ?_
  have : (s.data.toList.take n).take k = s.data.toList.take k := by rw [List.take_take]; congr 1; omega
  rw [← this] at hx
  exact List.mem_of_mem_take hx
/-- Which owners may be. -/
def mayB (s : ByteArray) : Bool := decide (0 < s.size) && decide (s.size ≤ 8) && obs s s.size

set_option maxRecDepth 100000 in
set_option maxHeartbeats 2000000 in
theorem may_any (s : ByteArray) (w : World) (hs : s.size ≤ 9223372036854775807) : Calls Tryz.prog 72 #[.string s] w fun e w' => e = .returned (.bool (mayB s)) ∧ w' = w := by
  by_cases h0 : s.size = 0
  · have H := Lib.hid (show mayB s = false by simp [mayB, h0])
    have he : s.toList = [] := by
      rw [ByteArray.toList_eq]
      exact List.eq_nil_of_length_eq_zero (by rw [← h0]; rfl)
    have he2 : s.toList.isEmpty = true := by rw [he]; rfl
    clear h0
    go_enter Tryz.func72, Tryz.ntmps72
    go_wp2_with fail
    go_ret
    exact ⟨by rw [H.out]; first | rfl | exact ret_bool (by simp; omega), rfl⟩
  · have he2 : s.toList.isEmpty = false := by
      rw [ByteArray.toList_eq]
      cases hh : s.data.toList with
      | nil =>
        exfalso
        apply h0
        have : s.data.toList.length = 0 := by rw [hh]; rfl
        exact this
      | cons a b => rfl
    have he : (s.toList = []) = False := by
      simp
      intro hh
      rw [hh] at he2
      cases he2
    by_cases h8 : 8 < s.size
    · have H := Lib.hid (show mayB s = false by simp [mayB]; omega)
      have h8' : (8 : Int) < s.size := by omega
      clear h0
      go_enter Tryz.func72, Tryz.ntmps72
      go_wp2_with fail
      go_ret
      exact ⟨by rw [H.out]; first | rfl | exact ret_bool (by simp; omega), rfl⟩
    · have h8' : ¬ (8 : Int) < s.size := by omega
      have HM := Lib.hid (show mayB s = obs s s.size by simp [mayB]; omega)
      clear h0
      go_enter Tryz.func72, Tryz.ntmps72
      go_wp2_with fail
      go_loop [13] (fun i => ∃ k : Nat, i = .int .i64 k ∧ k ≤ s.size ∧ Hid (obs s k = true)) (fun i => s.size - (intOf i).toNat)
      case atStart => exact ⟨0, rfl, by omega, obs_zero s⟩
      case round =>
        obtain ⟨k, rfl, hk, HH⟩ := hrel
        by_cases hlt : k < s.size
        · have HS := Lib.hid (obs_snoc s k hlt)
          have HF := Lib.hid (obs_false s (k + 1) s.size)
          have HO := Lib.hid fun W => ob_any (s[k].toNat : Int) W (by omega) (by have := s[k].toNat_lt; omega)
          obtain ⟨C, hC⟩ : ∃ C, obB (s[k].toNat : Int) = C := ⟨_, rfl⟩
          rw [hC] at HS HO
          clear hC
          go_wp2_with fail
          refine (HO.out _).mono ?_
          rintro e w1 ⟨rfl, rfl⟩
          cases C
          · go_wp2_with fail
            go_ret
            refine ⟨ret_bool ?_, rfl⟩
            rw [HM.out, HF.out (by rw [HS.out]; simp) (by omega)]
          · go_wp2_with fail
            go_round
            case rel => exact ⟨k + 1, by go_num, by omega, Lib.hid (by rw [HS.out, HH.out]; rfl)⟩
            case measure => simp [intOf]; omega
        · obtain rfl : k = s.size := by omega
          go_wp2_with fail
          go_ret
          exact ⟨ret_bool (by rw [HM.out, HH.out]), rfl⟩

end Go.Proofs.YtilneflfeegnfaaGreat.Hl

/-
  The contracts of held.place and held.Get: where an address stands in a row, and who has it. Conditions: the row lies in memory.
-/
set_option linter.unusedSimpArgs false
set_option linter.unusedVariables false
namespace Go.Proofs.YtilneflfeegnfaaGreat.Hl
open Go.RowKit

/-- How many holders of a row stand ahead of an address. -/
def lo : List Hr → Int → Nat
  | [], _ => 0
  | x :: r, a => if x.a < a then lo r a + 1 else 0
theorem lo_le (a : Int) : ∀ xs, lo xs a ≤ xs.length
  | [] => Nat.le_refl _
  | x :: r => by
    unfold lo
    have := lo_le a r
    split <;> simp
    omega
theorem lo_lt (a : Int) : ∀ (xs : List Hr) (k : Nat) (x : Hr), k < lo xs a → xs[k]? = some x → x.a < a
  | [], k, x, h, _ => by simp [lo] at h
  | y :: r, k, x, h, hx => by
    unfold lo at h
    split at h
    · rename_i hy
      cases k with
      | zero => simp at hx; subst hx; exact hy
      | succ k => exact lo_lt a r k x (by omega) (by simpa using hx)
    · omega
theorem lo_ge (a : Int) : ∀ (xs : List Hr) (x : Hr), xs[lo xs a]? = some x → ¬ x.a < a
  | [], x, hx => by simp at hx
  | y :: r, x, hx => by
    unfold lo at hx
    split at hx
    · exact lo_ge a r x (by simpa using hx)
    · rename_i hy
      simp at hx
      subst hx
      exact hy
/-- Whether the address has a holder there. -/
def isAt (xs : List Hr) (a : Int) : Bool := match xs[lo xs a]? with
  | some x => decide (x.a = a)
  | none => false
/-- Who has it. -/
def gt (xs : List Hr) (a : Int) : Hr := if isAt xs a = true then xs[lo xs a]?.getD zh else zh
theorem isAt_some {xs : List Hr} {a : Int} (h : isAt xs a = true) : ∃ x, xs[lo xs a]? = some x ∧ x.a = a ∧ lo xs a < xs.length := by
  unfold isAt at h
  split at h
  · rename_i x hx
    exact ⟨x, hx, by simpa using h, (List.getElem?_eq_some_iff.1 hx).1⟩
  · cases h

set_option maxRecDepth 100000 in
set_option maxHeartbeats 2000000 in
theorem place_any (a : Int) (A : Option Addr) (xs : List Hr) (cap : Nat) (w : World) (h : Hs w A xs) (ha0 : 0 ≤ a) (ha1 : a < 4294967296) :
    Calls Tryz.prog 45 #[.slice A xs.length cap, .int .u32 a] w fun e w' => e = .returned (.tuple #[.int .i64 (lo xs a), .bool (isAt xs a)]) ∧ ∃ n, w' = w.drewN n := by
  have hle := lo_le a xs
  have hln := h.1
  have R := Lib.hid h
  clear h
  have HI := Lib.hid (show isAt xs a = _ by unfold isAt; rfl)
  obtain ⟨L, hL⟩ : ∃ L, xs.length = L := ⟨_, rfl⟩
  have HL := Lib.hid hL
  rw [hL] at hle hln ⊢
  clear hL
  obtain ⟨P, hP⟩ : ∃ P, lo xs a = P := ⟨_, rfl⟩
  have HP := Lib.hid hP
  rw [hP] at hle ⊢
  clear hP
  go_enter Tryz.func45, Tryz.ntmps45
  go_wp2_with fail
  go_loop [6] (fun i => ∃ k : Nat, i = .int .i64 k ∧ k ≤ P) (fun i => P - (intOf i).toNat)
  case atStart => exact ⟨0, rfl, by omega⟩
  case round =>
    obtain ⟨k, rfl, hk⟩ := hrel
    by_cases hkL : k < L
    · obtain ⟨x, hx⟩ : ∃ x, xs[k]? = some x := ⟨_, List.getElem?_eq_getElem (by rw [HL.out]; exact hkL)⟩
      obtain ⟨y, rfl⟩ := hs_some R.out (by rw [HL.out]; omega)
      have hok := R.out.ok hx
      have c0 : w.cell? (y.add (k * 8)) = some (.int .u32 x.a) := by
        have := R.out.at hx 0 _ rfl
        rwa [Addr.add_add] at this
      have X0 : 0 ≤ x.a := hok.1
      have X1 : x.a < 4294967296 := hok.2.1
      by_cases hlt : k < P
      · have hxa : x.a < a := lo_lt a xs k x (by rw [HP.out]; exact hlt) hx
        clear hx hok
        go_wp2_with fail
        go_round
        case rel => exact ⟨k + 1, by go_num, by omega⟩
        case measure => simp [intOf]; omega
      · obtain rfl : k = P := by omega
        have hxa : ¬ x.a < a := lo_ge a xs x (by rw [HP.out]; exact hx)
        have HA := Lib.hid (show isAt xs a = decide (x.a = a) by rw [HI.out, HP.out, hx])
        clear hx hok
        by_cases he : x.a = a
        · have he2 : (x.a == a) = true := by simpa using he
          have HE := Lib.hid he
          clear he
          go_wp2_with fail
          go_quiet (fail)
          go_wp2_with fail
          go_ret2
          refine ⟨?_, _, rfl⟩
          rw [HA.out, decide_eq_true HE.out]; rfl
        · have he2 : (x.a == a) = false := by simpa using he
          have HE := Lib.hid he
          clear he
          go_wp2_with fail
          go_quiet (fail)
          go_wp2_with fail
          go_ret2
          refine ⟨?_, _, rfl⟩
          rw [HA.out, decide_eq_false HE.out]; rfl
    · obtain rfl : k = L := by omega
      obtain rfl : k = P := by omega
      have HA := Lib.hid (show isAt xs a = false by rw [HI.out, HP.out, List.getElem?_eq_none (by rw [HL.out]; exact Nat.le_refl _)])
      go_wp2_with fail
      go_quiet (fail)
      go_wp2_with fail
      go_ret2
      refine ⟨?_, _, rfl⟩
      rw [HA.out]; rfl

theorem place_below {a : Int} {A : Option Addr} {xs : List Hr} {cap : Nat} {w : World} (h : Hs w A xs) (ha0 : 0 ≤ a) (ha1 : a < 4294967296) :
    Calls Tryz.prog 45 #[.slice A xs.length cap, .int .u32 a] w fun e w' => e = .returned (.tuple #[.int .i64 (lo xs a), .bool (isAt xs a)]) ∧ Below w.heap.size w w' :=
  (place_any a A xs cap w h ha0 ha1).mono fun _ _ ⟨he, n, hn⟩ => ⟨he, hn ▸ bdrewN (Below.refl _ _) n⟩
theorem Hs.drewN {w : World} {A : Option Addr} {xs : List Hr} (h : Hs w A xs) (n : Nat) : Hs (w.drewN n) A xs := h.below (bdrewN (Below.refl _ _) n)
theorem set8h {w w1 : World} {b : Nat} (h : Below w.heap.size w w1) (hb : w.heap.size ≤ b) (v0 v1 v2 v3 v4 v5 v6 v7 : Value) :
    Below w.heap.size w ((((((((w1.setCell ⟨b, 0, none⟩ v0).setCell ⟨b, 1, none⟩ v1).setCell ⟨b, 2, none⟩ v2).setCell ⟨b, 3, none⟩ v3).setCell ⟨b, 4, none⟩ v4).setCell ⟨b, 5, none⟩ v5).setCell ⟨b, 6, none⟩ v6).setCell ⟨b, 7, none⟩ v7) :=
  (((((((h.setCell hb v0).setCell hb v1).setCell hb v2).setCell hb v3).setCell hb v4).setCell hb v5).setCell hb v6).setCell hb v7

set_option maxRecDepth 100000 in
set_option maxHeartbeats 2000000 in
theorem get_any (a : Int) (A : Option Addr) (xs : List Hr) (cap : Nat) (w : World) (h : Hs w A xs) (hc : xs.length ≤ cap) (ha0 : 0 ≤ a) (ha1 : a < 4294967296) :
    Calls Tryz.prog 22 #[.slice A xs.length cap, .int .u32 a] w fun e w' => e = .returned (.tuple #[hv (gt xs a), .bool (isAt xs a)]) ∧ Below w.heap.size w w' := by
  have hle := lo_le a xs
  have hln := h.1
  have R := Lib.hid h
  have HP := Lib.hid (place_any a A xs cap (w.alloc (.cells #[.int .u32 0, .string ⟨#[]⟩, .int .u8 0, .int .u8 0, .int .u8 0, .int .u8 0, .int .u8 0, .int .u8 0] 44)) (h.below ((Below.refl _ w).alloc (Nat.le_refl _) _)) ha0 ha1)
  have HG := Lib.hid (show gt xs a = _ by unfold gt; rfl)
  have HS := Lib.hid (@isAt_some xs a)
  clear h
  obtain ⟨L, hL⟩ : ∃ L, xs.length = L := ⟨_, rfl⟩
  have HL := Lib.hid hL
  rw [hL] at hle hln HP hc ⊢
  clear hL
  obtain ⟨G, hG⟩ : ∃ G, gt xs a = G := ⟨_, rfl⟩
  rw [hG] at HG ⊢
  clear hG
  obtain ⟨P, hP⟩ : ∃ P, lo xs a = P := ⟨_, rfl⟩
  have HPP := Lib.hid hP
  rw [hP] at hle HP
  clear hP
  obtain ⟨B, hB⟩ : ∃ B, isAt xs a = B := ⟨_, rfl⟩
  have HB := Lib.hid hB
  rw [hB] at HP HG ⊢
  clear hB
  go_enter Tryz.func22, Tryz.ntmps22
  go_wp2_with fail
  refine HP.out.mono ?_
  rintro e w1 ⟨rfl, n1, hw1⟩
  have B1 : Below w.heap.size w w1 := hw1 ▸ bdrewN ((Below.refl _ w).alloc (Nat.le_refl _) _) n1
  have k0 : w1.cell? ⟨w.heap.size, 0, none⟩ = some (.int .u32 0) := by rw [hw1]; simp
  have k1 : w1.cell? ⟨w.heap.size, 1, none⟩ = some (.string ⟨#[]⟩) := by rw [hw1]; simp
  have k2 : w1.cell? ⟨w.heap.size, 2, none⟩ = some (.int .u8 0) := by rw [hw1]; simp
  have k3 : w1.cell? ⟨w.heap.size, 3, none⟩ = some (.int .u8 0) := by rw [hw1]; simp
  have k4 : w1.cell? ⟨w.heap.size, 4, none⟩ = some (.int .u8 0) := by rw [hw1]; simp
  have k5 : w1.cell? ⟨w.heap.size, 5, none⟩ = some (.int .u8 0) := by rw [hw1]; simp
  have k6 : w1.cell? ⟨w.heap.size, 6, none⟩ = some (.int .u8 0) := by rw [hw1]; simp
  have k7 : w1.cell? ⟨w.heap.size, 7, none⟩ = some (.int .u8 0) := by rw [hw1]; simp
  have f8 : ∀ k, w1.frozen? ⟨w.heap.size, k, none⟩ = false := by intro k; rw [hw1]; simp
  have R1 := Lib.hid (R.out.below B1)
  have BB := Lib.hid B1
  clear hw1 B1 HP
  cases B
  · go_wp2_with fail
    exact bodyPost_ret (v := .tuple #[hv zh, .bool false]) (by simp [results, Tryz.results22, go_sem, hv, zh, k0, k1, k2, k3, k4, k5, k6, k7]) rfl ⟨by rw [HG.out]; rfl, set8h BB.out (Nat.le_refl _) _ _ _ _ _ _ _ _⟩
  · obtain ⟨x, hx, hxa, hlt⟩ := HS.out HB.out
    rw [HPP.out] at hx hlt
    rw [HL.out] at hlt
    have HGx := Lib.hid (show G = x by rw [HG.out]; simp [HPP.out, hx])
    obtain ⟨y, rfl⟩ := hs_some R.out (by rw [HL.out]; omega)
    have hat := R1.out.at hx
    obtain ⟨xa, xT, x0, x1, x2, x3, x4, x5⟩ := x
    clear hx hxa
    go_wp2_with (refine at_load33 _ rfl rfl _ _ rfl hat ?_)
    exact bodyPost_ret (v := .tuple #[hv ⟨xa, xT, x0, x1, x2, x3, x4, x5⟩, .bool true]) (by simp [results, Tryz.results22, go_sem, hv, k0, k1, k2, k3, k4, k5, k6, k7]) rfl ⟨by rw [HGx.out], set8h BB.out (Nat.le_refl _) _ _ _ _ _ _ _ _⟩
end Go.Proofs.YtilneflfeegnfaaGreat.Hl

/-
  The contracts of slices.Grow and slices.Concat at rows of holders. Conditions: of up to 1000 holders in all, which lie in memory.
-/
set_option linter.unusedSimpArgs false
set_option linter.unusedVariables false
namespace Go.Proofs.YtilneflfeegnfaaGreat.Hl
open Go.RowKit

theorem info33 : (Tryz.prog.info? 44).map (fun i => (i.zero, i.size, i.bytes)) = some (some (hv zh), 8, 32) := by kernel_rfl
/-- Room for some holders, where there was none. -/
theorem run_zeros (w : World) (n : Nat) (ty : TypeId) (h0 : 0 < n) (hn : n ≤ 1000) : (Builtin.append_ #[29, 3] ty #[.slice none 0 0, .int .i64 (n : Int)]).run Tryz.prog w =
    .ok (.slice (some ⟨w.heap.size, 0, none⟩) n (grownCap w n 0 44)) (w.drew.alloc (.cells (Builtin.zeroCells (hv zh).cells n ++ Builtin.zeroCells (hv zh).cells (grownCap w n 0 44 - n)) 44)) := by
  obtain ⟨i, hi, hz0, hz1, hz2⟩ := info_parts info33
  have hne : n ≠ 0 := by omega
  have hw : IntKind.i64.wrap (n : Int) = n := by rw [IntKind.wrap_i64]; omega
  have h1 : ¬ ((n : Int) < 0) := by omega
  have h2 : ¬ (281474976710656 < (n : Int) * 32) := by omega
  have h63' : ¬ (9223372036854775807 < (n : Int)) := by omega
  have h48' : ¬ (281474976710656 < Builtin.nextslicecap n 0 * 32) := by rw [nextslicecap_zero h0]; omega
  have h48 : ¬ (281474976710656 < ((Builtin.nextslicecap n 0 * 32 : Nat) : Int)) := by rw [nextslicecap_zero h0]; omega
  simp [Builtin.append_, run_underlying Tryz.underlying29, run_underlying Tryz.underlying3, sizeOf, typeInfo, zeroValue, hi, hz0, hz1, hz2, hne, hw, h1, h2, h63', h48, h48', Question.forced, run_firstCells_none, newRow, grownCap, asInt, asIntOf]
  intro h; omega
theorem wpList_zeros (w : World) {ops : Array Oper} {rest : List Oper} {o : Oper} {a : Act} {Q : Exit → Act → World → Prop} (hgd : o.guard = none) (s x : Operand) (ho : o.op = .call { callee := .builtin .append, args := #[s, x], argTypes := #[29, 3] })
    (n : Nat) (hs : a.eval s = .slice none 0 0) (hx : a.eval x = .int .i64 (n : Int)) (h0 : 0 < n) (hn : n ≤ 1000)
    (h : ∀ C cap, n ≤ cap → cap ≤ maxLen → C.size = cap * 8 → wpList Tryz.prog ops Q rest (a.put o.dst (.slice (some ⟨w.heap.size, 0, none⟩) n cap)) (w.drew.alloc (.cells C 44))) : wpList Tryz.prog ops Q (o :: rest) a w :=
  wpList_plain hgd fun _ hK => by
    unfold Oper.wp execOp
    simp only [ho, resolve, invoke, builtin, Sem.run_bind, Sem.run_pure, Result.andThen_ok, List.map_toArray, List.map_cons, List.map_nil, hs, hx, run_zeros w n o.type h0 hn]
    have hge := grownCap_ge w n 0 44
    have hle := grownCap_le_maxLen w n 0 44 (by unfold maxLen; omega)
    refine hK _ _ (h _ _ hge hle ?_)
    rw [Array.size_append, size_zeroCells, size_zeroCells]
    show n * 8 + (grownCap w n 0 44 - n) * 8 = _
    omega
/-- A row of the call's own, of whatever capacity. -/
def OwnPost (w : World) (n : Nat) (xs : List Hr) (e : Ending) (w' : World) : Prop := ∃ v, e = .returned v ∧ w'.ownsRow w.heap.size 44 8 v n (hcs xs) ∧ Below w.heap.size w w'

set_option maxRecDepth 100000 in
set_option maxHeartbeats 2000000 in
theorem grow_any (n : Nat) (w : World) (hn : n ≤ 1000) : Calls Tryz.prog 115 #[.slice none 0 0, .int .i64 (n : Int)] w (OwnPost w 0 []) := by
  by_cases h0 : n = 0
  · subst h0
    go_enter Tryz.func115, Tryz.ntmps115
    go_wp2_with fail
    go_ret
    exact ⟨_, rfl, World.ownsRow_nil _ _ _ _, Below.refl _ _⟩
  · have h1 : 0 < n := by omega
    have h1' : (0 : Int) < n := by omega
    clear h0
    go_enter Tryz.func115, Tryz.ntmps115
    go_wp2_with (at_builtin; refine wpList_zeros _ rfl (.tmp 20) (.tmp 21) rfl n (by simp [Act.eval, Act.put]) (by simp [Act.eval, Act.put]) h1 hn ?_)
    intro C cap hge hle hsz
    have HZ := Lib.hid hsz
    have HM := Lib.hid hle
    unfold maxLen at hle
    clear hsz
    go_wp2_with fail
    go_ret
    exact ⟨_, rfl, World.ownsRow_made (w.drew) C cap (Nat.le_refl _) HM.out HZ.out, (Below.refl _ w).drew.alloc (Nat.le_refl _) _⟩

/-- Nothing appended: nothing done. -/
theorem run_append_no (w : World) (base : Nat) (ty : TypeId) (v : Value) (n c : Nat) (xs : List Value) (hown : w.ownsRow base 44 8 v n xs) : (Builtin.append_ #[29, 29] ty #[v, .slice none 0 c]).run Tryz.prog w = .ok v w := by
  obtain ⟨i, hi, _⟩ := info_parts info33
  rcases hown.2 with ⟨rfl, rfl⟩ | ⟨g, cap, cur, rfl, _, _, hle, _⟩
  · simp [Builtin.append_, run_underlying Tryz.underlying29, sizeOf, typeInfo, hi, Builtin.lenOf, Builtin.firstCells]
  · simp [Builtin.append_, run_underlying Tryz.underlying29, sizeOf, typeInfo, hi, Builtin.lenOf, Builtin.firstCells, hle, storeCells]
/-- A row appended to one of the call's own. -/
theorem run_append_hs (w : World) (base : Nat) (ty : TypeId) (v : Value) (n : Nat) (xs : List Hr) (hown : w.ownsRow base 44 8 v n (hcs xs)) (A : Option Addr) (m c : Nat) (ys : List Hr) (hm : m = ys.length) (hr : Hs w A ys)
    (hlen : n + m ≤ 1000000) (hbase : base ≤ w.heap.size) :
    ∃ v' w', (Builtin.append_ #[29, 29] ty #[v, .slice A m c]).run Tryz.prog w = .ok v' w' ∧ w'.ownsRow base 44 8 v' (n + m) (hcs (xs ++ ys)) ∧ w.grownBy w' v.ownBlock := by
  subst hm
  rw [hcs_append]
  rcases A with _ | x
  · have hz : ys = [] := by
      rcases Nat.eq_zero_or_pos ys.length with h0 | h0
      · exact List.eq_nil_of_length_eq_zero h0
      · obtain ⟨x, hx⟩ := hs_some hr h0
        cases hx
    subst hz
    refine ⟨v, w, run_append_no w base ty v n c _ hown, ?_, ⟨rfl, rfl, rfl, Nat.le_refl _, fun _ _ _ => rfl⟩⟩
    simpa [hcs] using hown
  · obtain ⟨i, hi, hz0, hz1, hz2⟩ := info_parts info33
    obtain ⟨v', w', hrun, h2, h3, _, h5⟩ := run_append_own_at (P := Tryz.prog) w base 29 ty 44 i (hv zh) 8 32 Tryz.underlying29 hi hz0 hz1 hz2 rfl (by omega) v n (hcs xs) hown x ys.length c (hcs ys) (by rw [hcs_length]) hr.cells (hcs_one ys) (by unfold maxLen; omega) (by omega) hbase
    exact ⟨v', w', hrun, h2, h3⟩
theorem wpList_append_hs (w : World) {ops : Array Oper} {rest : List Oper} {o : Oper} {a : Act} {Q : Exit → Act → World → Prop} (hgd : o.guard = none) (s x : Operand) (ho : o.op = .call { callee := .builtin .append, args := #[s, x], argTypes := #[29, 29] })
    (base : Nat) (v : Value) (n : Nat) (xs : List Hr) (hs : a.eval s = v) (hown : w.ownsRow base 44 8 v n (hcs xs)) (A : Option Addr) (m c : Nat) (ys : List Hr) (hx : a.eval x = .slice A m c) (hm : m = ys.length) (hr : Hs w A ys)
    (hlen : n + m ≤ 1000000) (hbase : base ≤ w.heap.size)
    (h : ∀ v' w', w'.ownsRow base 44 8 v' (n + m) (hcs (xs ++ ys)) → w.grownBy w' v.ownBlock → wpList Tryz.prog ops Q rest (a.put o.dst v') w') : wpList Tryz.prog ops Q (o :: rest) a w :=
  wpList_plain hgd fun _ hK => by
    obtain ⟨v', w', hrun, h2, h3⟩ := run_append_hs w base o.type v n xs hown A m c ys hm hr hlen hbase
    unfold Oper.wp execOp
    simp only [ho, resolve, invoke, builtin, Sem.run_bind, Sem.run_pure, Result.andThen_ok, List.map_toArray, List.map_cons, List.map_nil, hs, hx, hrun]
    exact hK _ _ (h v' w' h2 h3)

/-- A part of what is put together. -/
structure Pt where
  A : Option Addr
  xs : List Hr
  c : Nat
/-- The parts as they lie in memory. -/
def Pm (w : World) (b : Nat) (ps : List Pt) : Prop := b < w.heap.size ∧ ∀ (k : Nat) (p : Pt), ps[k]? = some p → w.cell? ⟨b, k, none⟩ = some (.slice p.A p.xs.length p.c) ∧ Hs w p.A p.xs
def cat (ps : List Pt) (k : Nat) : List Hr := (ps.take k).flatMap (·.xs)
theorem cat_zero (ps : List Pt) : cat ps 0 = [] := by simp [cat]
theorem cat_snoc {ps : List Pt} {k : Nat} {p : Pt} (h : ps[k]? = some p) : cat ps (k + 1) = cat ps k ++ p.xs := by
  unfold cat
  rw [List.take_add_one, h]
  simp
theorem cat_le (ps : List Pt) (k : Nat) : (cat ps k).length ≤ (cat ps ps.length).length := by
  unfold cat
  rw [List.take_length]
  have : ps = ps.take k ++ ps.drop k := (List.take_append_drop k ps).symm
  conv => rhs; rw [this]
  rw [List.flatMap_append, List.length_append]
  omega

set_option maxRecDepth 100000 in
set_option maxHeartbeats 4000000 in
theorem concat_any (ps : List Pt) (b c : Nat) (w : World) (h : Pm w b ps) (hn : (cat ps ps.length).length ≤ 1000) (hps : ps.length ≤ 10) :
    Calls Tryz.prog 73 #[.slice (some ⟨b, 0, none⟩) ps.length c] w (OwnPost w (cat ps ps.length).length (cat ps ps.length)) := by
  have HP := Lib.hid h
  have hb := h.1
  have HC := Lib.hid (cat_le ps)
  have HS := Lib.hid (fun (k : Nat) (p : Pt) (h : ps[k]? = some p) => cat_snoc h)
  obtain ⟨L, hL⟩ : ∃ L, ps.length = L := ⟨_, rfl⟩
  have HL := Lib.hid hL
  rw [hL] at hn hps HC ⊢
  clear hL h
  go_enter Tryz.func73, Tryz.ntmps73
  go_wp2_with fail
  go_loop [3, 11] (fun s i => ∃ k : Nat, i = .int .i64 k ∧ k ≤ L ∧ s = .int .i64 ((cat ps k).length : Nat)) (fun _ i => L - (intOf i).toNat)
  case atStart => exact ⟨0, rfl, by omega, by rw [cat_zero]; rfl⟩
  case round =>
    obtain ⟨k, rfl, hk, rfl⟩ := hrel
    have hkc := HC.out k
    by_cases hlt : k < L
    · obtain ⟨p, hp⟩ : ∃ p, ps[k]? = some p := ⟨_, List.getElem?_eq_getElem (by rw [HL.out]; exact hlt)⟩
      have k0 := (HP.out.2 k p hp).1
      have hkc1 := HC.out (k + 1)
      have HK := Lib.hid (HS.out _ _ hp)
      rw [HK.out, List.length_append] at hkc1
      obtain ⟨A, xs, pc⟩ := p
      dsimp only at k0 hkc1 HK
      have HX := Lib.hid (show (cat ps (k + 1)).length = (cat ps k).length + xs.length by rw [HK.out, List.length_append])
      generalize (cat ps k).length = N at *
      clear hp
      go_wp2_with fail
      go_round
      case rel => exact ⟨k + 1, by go_num, by omega, by rw [HX.out]; go_num⟩
      case measure => simp [intOf]; omega
    · obtain rfl : k = L := by omega
      have HG := Lib.hid (grow_any (cat ps k).length w hn)
      obtain ⟨N, hN⟩ : ∃ N, (cat ps k).length = N := ⟨_, rfl⟩
      have HN := Lib.hid hN
      rw [hN] at HG hn HC ⊢
      clear hN hkc
      go_wp2_with fail
      refine HG.out.mono ?_
      rintro e w1 ⟨v1, rfl, ho, hb1⟩
      have O1 := Lib.hid ho
      have B1 := Lib.hid hb1
      clear ho hb1
      go_wp2_with fail
      go_loopw [6, 27] (fun v i wr => ∃ q : Nat, i = .int .i64 q ∧ q ≤ k ∧ Hid (wr.ownsRow w.heap.size 44 8 v (cat ps q).length (hcs (cat ps q)) ∧ Below w.heap.size w wr)) (fun _ i _ => k - (intOf i).toNat)
      case atStart => exact ⟨0, rfl, by omega, Lib.hid ⟨by rw [cat_zero]; exact O1.out, B1.out⟩⟩
      case round =>
        obtain ⟨q, rfl, hq, HR⟩ := hrel
        by_cases hlt : q < k
        · obtain ⟨p, hp⟩ : ∃ p, ps[q]? = some p := ⟨_, List.getElem?_eq_getElem (by rw [HL.out]; exact hlt)⟩
          obtain ⟨k0, kH⟩ := HP.out.2 q p hp
          have k1 : wr.cell? ⟨b, q, none⟩ = some (.slice p.A p.xs.length p.c) := by rw [HR.out.2.cell (p := ⟨b, q, none⟩) hb]; exact k0
          have kH1 := kH.below HR.out.2
          have hkc1 := HC.out (q + 1)
          have HK := Lib.hid (HS.out _ _ hp)
          rw [HK.out, List.length_append] at hkc1
          have hlen : (cat ps q).length + p.xs.length ≤ 1000000 := by omega
          obtain ⟨A, xs, pc⟩ := p
          dsimp only at k1 kH1 hkc1 HK hlen
          have hbase : w.heap.size ≤ wr.heap.size := HR.out.2.size
          have ho := HR.out.1
          have HH := Lib.hid kH1
          clear hp k0 kH kH1
          go_wp2_with (at_builtin; refine wpList_append_hs _ rfl (.tmp 31) (.tmp 32) rfl w.heap.size _ _ _ (by simp [Act.eval, Act.put]) ho A xs.length pc xs (by simp [Act.eval, Act.put]) rfl HH.out hlen hbase ?_)
          intro v2 w2 ho2 hg2
          have O2 := Lib.hid ho2
          have B2 := Lib.hid (HR.out.2.grown hg2 hbase (fun j hj => (ho.lt j hj).1))
          clear ho2 hg2 ho
          go_wp2_with fail
          go_roundw
          case rel => exact ⟨q + 1, by go_num, by omega, Lib.hid ⟨by rw [HK.out, List.length_append]; exact O2.out, B2.out⟩⟩
          case measure => simp [intOf]; omega
        · obtain rfl : q = k := by omega
          go_wp2_with fail
          go_ret
          refine ⟨_, rfl, ?_, HR.out.2⟩
          rw [← HN.out]
          exact HR.out.1
end Go.Proofs.YtilneflfeegnfaaGreat.Hl

/-
  The contracts of held.Take and held.Put. Conditions: the row lies in memory, and has up to 900 holders.
-/
set_option linter.unusedSimpArgs false
set_option linter.unusedVariables false
namespace Go.Proofs.YtilneflfeegnfaaGreat.Hl
open Go.RowKit

/-- Where the rest of a row lies. -/
def dA (A : Option Addr) (c k : Nat) : Option Addr := if c = k then A else A.map (·.add (k * 8))
theorem Hs.rest {w : World} {A : Option Addr} {xs : List Hr} (h : Hs w A xs) {c : Nat} (hc : xs.length ≤ c) (k : Nat) : Hs w (dA A c k) (xs.drop k) := by
  unfold dA
  split
  · rename_i e
    rw [List.drop_eq_nil_of_le (by omega)]
    exact Hs.nil _ _
  · cases A with
    | none =>
      have : xs = [] := by
        rcases Nat.eq_zero_or_pos xs.length with h0 | h0
        · exact List.eq_nil_of_length_eq_zero h0
        · obtain ⟨x, hx⟩ := hs_some h h0
          cases hx
      subst this
      rw [List.drop_nil]
      exact Hs.nil _ _
    | some y => exact h.drop k
theorem size33' : (Tryz.prog.info? 44).map (·.size) = some 8 := by kernel_rfl
theorem run_size33 (W : World) : (Go.sizeOf 44).run Tryz.prog W = .ok 8 W := by
  obtain ⟨i, hi, hs⟩ := Option.map_eq_some_iff.1 size33'
  rw [← hs]
  simp [Go.sizeOf, typeInfo, hi]
theorem sl_h (A : Option Addr) (n c i : Nat) (hi : i ≤ c) (W : World) : (Instr.slice 29 (.slice A n c) none (some (.int .i64 (i : Int))) none).run Tryz.prog W = .ok (.slice A i c) W := by
  have h1 : (i : Int) ≤ c := by omega
  have h2 : A.map (·.add (0 * 8)) = A := by cases A <;> simp [Addr.add]
  unfold Instr.slice Instr.sliceBounds Instr.sliceBound
  simp only [Sem.run_bind, run_underlying Tryz.underlying29, Result.andThen_ok, Sem.run_pure, run_size33, asIntOf]
  try simp only [Option.isSome_none, Bool.false_eq_true, if_false, Sem.run_bind, Sem.run_pure, Result.andThen_ok]
  rw [if_pos ⟨by omega, h1⟩]
  simp only [Sem.run_bind, Sem.run_pure, Result.andThen_ok, h2, ite_self, Nat.sub_zero, Int.toNat_natCast]
theorem sl_l (A : Option Addr) (n c k : Nat) (hk : k ≤ n) (hc : n ≤ c) (W : World) : (Instr.slice 29 (.slice A n c) (some (.int .i64 (k : Int))) none none).run Tryz.prog W = .ok (.slice (dA A c k) (n - k) (c - k)) W := by
  have h1 : (k : Int) ≤ n := by omega
  unfold Instr.slice Instr.sliceBounds Instr.sliceBound
  simp only [Sem.run_bind, run_underlying Tryz.underlying29, Result.andThen_ok, Sem.run_pure, run_size33, asIntOf]
  try simp only [Option.isSome_none, Bool.false_eq_true, if_false, Sem.run_bind, Sem.run_pure, Result.andThen_ok]
  rw [if_pos ⟨by omega, h1⟩]
  simp only [Sem.run_bind, Sem.run_pure, Result.andThen_ok, Int.toNat_natCast]
  rfl

/-- The parts, in a row of their own. -/
def pF (ps : List Pt) : Value → World → Prop := fun v W => ∃ b, v = .slice (some ⟨b, 0, none⟩) ps.length ps.length ∧ Pm W b ps
theorem Pm.below {w w' : World} {b : Nat} {ps : List Pt} (h : Pm w b ps) (hb : Below w.heap.size w w') : Pm w' b ps :=
  ⟨Nat.lt_of_lt_of_le h.1 hb.size, fun k p hp => ⟨by rw [hb.cell (p := ⟨b, k, none⟩) h.1]; exact (h.2 k p hp).1, (h.2 k p hp).2.below hb⟩⟩
theorem stable_pF (ps : List Pt) : Stable (pF ps) := fun _ _ _ ⟨b, hv, hP⟩ hb => ⟨b, hv, Pm.below hP hb⟩
/-- A row of the call's own. -/
def oF (B : Nat) (ys : List Hr) : Value → World → Prop := fun v W => W.ownsRow B 44 8 v ys.length (hcs ys)
theorem stable_oF (B : Nat) (ys : List Hr) : Stable (oF B ys) := fun _ _ _ h hb => own_keep h hb
/-- A row of one. -/
def hF (h : Hr) : Value → World → Prop := fun v W => ∃ b, v = .slice (some ⟨b, 0, none⟩) 1 1 ∧ Hs W (some ⟨b, 0, none⟩) [h]
theorem stable_hF (h : Hr) : Stable (hF h) := fun _ _ _ ⟨b, hv, hP⟩ hb => ⟨b, hv, hP.below hb⟩
theorem pm_two (W : World) (p q : Pt) (t : TypeId) (hp : Hs W p.A p.xs) (hq : Hs W q.A q.xs) : Pm (W.alloc (.cells #[.slice p.A p.xs.length p.c, .slice q.A q.xs.length q.c] t)) W.heap.size [p, q] := by
  refine ⟨by simp, fun k r hr => ?_⟩
  match k, hr with
  | 0, hr => simp at hr; subst hr; exact ⟨by simp, hp.below ((Below.refl _ _).alloc (Nat.le_refl _) _)⟩
  | 1, hr => simp at hr; subst hr; exact ⟨by simp, hq.below ((Below.refl _ _).alloc (Nat.le_refl _) _)⟩
  | k + 2, hr => simp at hr
theorem pm_three (W : World) (p q s : Pt) (t : TypeId) (hp : Hs W p.A p.xs) (hq : Hs W q.A q.xs) (hs : Hs W s.A s.xs) : Pm (W.alloc (.cells #[.slice p.A p.xs.length p.c, .slice q.A q.xs.length q.c, .slice s.A s.xs.length s.c] t)) W.heap.size [p, q, s] := by
  refine ⟨by simp, fun k r hr => ?_⟩
  match k, hr with
  | 0, hr => simp at hr; subst hr; exact ⟨by simp, hp.below ((Below.refl _ _).alloc (Nat.le_refl _) _)⟩
  | 1, hr => simp at hr; subst hr; exact ⟨by simp, hq.below ((Below.refl _ _).alloc (Nat.le_refl _) _)⟩
  | 2, hr => simp at hr; subst hr; exact ⟨by simp, hs.below ((Below.refl _ _).alloc (Nat.le_refl _) _)⟩
  | k + 3, hr => simp at hr
theorem hs_box (W : World) (x : Hr) (hx : x.ok) : Hs (W.alloc (Hx x)) (some ⟨W.heap.size, 0, none⟩) [x] := by
  refine ⟨by simp, fun q z hq => ?_⟩
  match q, hq with
  | 0, hq =>
    simp at hq
    subst hq
    refine ⟨hx, _, rfl, fun j v hv => ?_⟩
    rw [Addr.add_mid]
    match j, hv with
    | 0, h => simp [hl] at h; subst h; simp [Hx]
    | 1, h => simp [hl] at h; subst h; simp [Hx]
    | 2, h => simp [hl] at h; subst h; simp [Hx]
    | 3, h => simp [hl] at h; subst h; simp [Hx]
    | 4, h => simp [hl] at h; subst h; simp [Hx]
    | 5, h => simp [hl] at h; subst h; simp [Hx]
    | 6, h => simp [hl] at h; subst h; simp [Hx]
    | 7, h => simp [hl] at h; subst h; simp [Hx]
    | j + 8, h => simp [hl] at h
  | q + 1, hq => simp at hq

/-- What a change hands back: a row, and a number. -/
def OutPost (w : World) (ys : List Hr) (q : Int) (e : Ending) (w' : World) : Prop :=
  ∃ A cap, e = .returned (.tuple #[.slice A ys.length cap, .int .i64 q]) ∧ ys.length ≤ cap ∧ cap ≤ maxLen ∧ Hs w' A ys ∧ Below w.heap.size w w'
theorem out_no (w w' : World) (q : Int) (hb : Below w.heap.size w w') : OutPost w [] q (.returned (.tuple #[.slice none 0 0, .int .i64 q])) w' :=
  ⟨none, 0, rfl, by simp, by unfold maxLen; omega, Hs.nil _ _, hb⟩
theorem out_yes {w w' : World} {B : Nat} {v : Value} {ys : List Hr} (h : w'.ownsRow B 44 8 v ys.length (hcs ys)) (hok : ∀ x ∈ ys, x.ok) (hn : ys.length ≤ 1000) (hb : Below w.heap.size w w') : OutPost w ys 0 (.returned (.tuple #[v, .int .i64 0])) w' := by
  obtain ⟨A, cap, rfl, hc, hm, _, hH, _⟩ := own_hs h hok (by omega)
  exact ⟨A, cap, rfl, hc, hm, hH, hb⟩

/-- The row without the holder of an address, and what is told. -/
def del (xs : List Hr) (a : Int) : List Hr := xs.take (lo xs a) ++ xs.drop (lo xs a + 1)
def takeC (xs : List Hr) (a : Int) : Int := if isAt xs a = true then 0 else 7
def takeR (xs : List Hr) (a : Int) : List Hr := if isAt xs a = true then del xs a else []
/-- The row with one more, and what is told. -/
def ins (xs : List Hr) (h : Hr) : List Hr := xs.take (lo xs h.a) ++ [h] ++ xs.drop (lo xs h.a)
def putC (xs : List Hr) (h : Hr) : Int := if mayB h.T = false then 12 else if isAt xs h.a = true then 6 else if 48 ≤ xs.length then 4 else 0
def putR (xs : List Hr) (h : Hr) : List Hr := if putC xs h = 0 then ins xs h else []
theorem hs_oks {w : World} {A : Option Addr} {xs : List Hr} (h : Hs w A xs) : ∀ x ∈ xs, x.ok := by
  intro x hx
  obtain ⟨q, hq, rfl⟩ := List.mem_iff_getElem.1 hx
  exact h.ok (List.getElem?_eq_getElem hq)
theorem del_sub {xs : List Hr} {a : Int} {x : Hr} (h : x ∈ del xs a) : x ∈ xs := by
  unfold del at h
  rcases List.mem_append.1 h with h | h
  · exact List.mem_of_mem_take h
  · exact List.mem_of_mem_drop h
theorem ins_sub {xs : List Hr} {h x : Hr} (hx : x ∈ ins xs h) : x = h ∨ x ∈ xs := by
  unfold ins at hx
  rcases List.mem_append.1 hx with hx | hx
  · rcases List.mem_append.1 hx with hx | hx
    · exact .inr (List.mem_of_mem_take hx)
    · exact .inl (by simpa using hx)
  · exact .inr (List.mem_of_mem_drop hx)

set_option maxRecDepth 100000 in
set_option maxHeartbeats 4000000 in
theorem take_any (a : Int) (A : Option Addr) (xs : List Hr) (cap : Nat) (w : World) (h : Hs w A xs) (hc : xs.length ≤ cap) (hx9 : xs.length ≤ 900) (ha0 : 0 ≤ a) (ha1 : a < 4294967296) :
    Calls Tryz.prog 31 #[.slice A xs.length cap, .int .u32 a] w (OutPost w (takeR xs a) (takeC xs a)) := by
  have hle := lo_le a xs
  have hln := h.1
  have R := Lib.hid h
  have HP := Lib.hid (place_any a A xs cap w h ha0 ha1)
  cases hB : isAt xs a
  · have HT := Lib.hid (show takeR xs a = [] ∧ takeC xs a = 7 by simp [takeR, takeC, hB])
    rw [hB] at HP
    rw [HT.out.1, HT.out.2]
    clear hB h HT
    generalize xs.length = L at *
    generalize lo xs a = P at *
    go_enter Tryz.func31, Tryz.ntmps31
    go_wp2_with fail
    refine HP.out.mono ?_
    rintro e w1 ⟨rfl, n1, hw1⟩
    have B1 := Lib.hid (show Below w.heap.size w w1 from hw1 ▸ bdrewN (Below.refl _ _) n1)
    clear hw1
    go_wp2_with fail
    go_ret2
    exact out_no w w1 7 B1.out
  · obtain ⟨x, hxx, hxa, hlt⟩ := isAt_some hB
    have HT := Lib.hid (show takeR xs a = del xs a ∧ takeC xs a = 0 by simp [takeR, takeC, hB])
    rw [hB] at HP
    rw [HT.out.1, HT.out.2]
    obtain ⟨y, rfl⟩ := hs_some h (by omega)
    obtain ⟨ys, hys⟩ : ∃ ys, del xs a = ys := ⟨_, rfl⟩
    obtain ⟨ps, hps⟩ : ∃ ps : List Pt, ps = [⟨some y, xs.take (lo xs a), cap⟩, ⟨dA (some y) cap (lo xs a + 1), xs.drop (lo xs a + 1), cap - (lo xs a + 1)⟩] := ⟨_, rfl⟩
    have e1 : (xs.take (lo xs a)).length = lo xs a := by rw [List.length_take]; omega
    have e2 : (xs.drop (lo xs a + 1)).length = xs.length - (lo xs a + 1) := by rw [List.length_drop]
    have hcat : cat ps ps.length = ys := by rw [← hys, hps]; simp [cat, del]
    have hyl : ys.length ≤ 1000 := by rw [← hys]; unfold del; rw [List.length_append, e1, e2]; omega
    have hok : ∀ z ∈ ys, z.ok := fun z hz => hs_oks h z (del_sub (hys ▸ hz))
    have HPM := Lib.hid (show ∀ W, Below w.heap.size w W → pF ps (.slice (some ⟨W.heap.size, 0, none⟩) 2 2) (W.alloc (.cells #[.slice (some y) (lo xs a) cap, .slice (dA (some y) cap (lo xs a + 1)) (xs.length - (lo xs a + 1)) (cap - (lo xs a + 1))] 29)) from fun W hW => by
      subst hps
      have hH := h.below hW
      have := pm_two W ⟨some y, xs.take (lo xs a), cap⟩ ⟨dA (some y) cap (lo xs a + 1), xs.drop (lo xs a + 1), cap - (lo xs a + 1)⟩ 29 (hH.take _) (hH.rest hc _)
      dsimp only at this
      rw [e1, e2] at this
      exact ⟨_, rfl, this⟩)
    have HCC := Lib.hid (show ∀ W, Below w.heap.size w W → ∀ b, Pm W b ps → Calls Tryz.prog 73 #[.slice (some ⟨b, 0, none⟩) 2 2] W fun e w' => ∃ v, e = .returned v ∧ Below W.heap.size W w' ∧ oF w.heap.size ys v w' from fun W hW b hb => by
      have := concat_any ps b 2 W hb (by rw [hcat]; exact hyl) (by rw [hps]; simp)
      rw [hcat, show ps.length = 2 by rw [hps]; rfl] at this
      refine this.mono ?_
      rintro e w' ⟨v, he, ho, hbb⟩
      exact ⟨v, he, hbb, own_base ho hW.size⟩)
    have HSH := Lib.hid (fun W => sl_h (some y) xs.length cap (lo xs a) (by omega) W)
    have HSL := Lib.hid (fun W => sl_l (some y) xs.length cap (lo xs a + 1) (by omega) hc W)
    have HPL := Lib.hid (show ps.length = 2 by rw [hps]; rfl)
    have HOK := Lib.hid hok
    have HYL := Lib.hid hyl
    rw [hys]
    have HW := Lib.hid (show IntKind.i64.wrap ((lo xs a : Int) + 1) = (lo xs a : Int) + 1 by rw [IntKind.wrap_i64]; omega)
    clear hps hcat hys hok hyl e1 e2 h hxx hxa HT hB
    generalize xs.length = L at *
    generalize lo xs a = P at *
    go_enter Tryz.func31, Tryz.ntmps31
    go_wp2_with fail
    refine HP.out.mono ?_
    rintro e w1 ⟨rfl, n1, hw1⟩
    have HB1 := Lib.hid (show Below w.heap.size w w1 from hw1 ▸ bdrewN (Below.refl _ _) n1)
    clear hw1
    go_wp2_with fail
    refine wp_region_below [fx (.slice (some y) L cap), fx (.int .i64 (P : Int)), fx (.slice (some y) P cap), fx (.slice (some y) L cap), fx (.int .i64 (P : Int)), fx (.int .i64 ((P + 1 : Nat) : Int)), fx (.slice (dA (some y) cap (P + 1)) (L - (P + 1)) (cap - (P + 1))), pF ps, oF w.heap.size ys, oF w.heap.size ys, fx (.int .i64 0)]
      (by kernel_rfl) (by kernel_rfl) (by kernel_rfl) ?_ ?_ ?_
    · simp only [List.mem_cons, List.not_mem_nil, or_false]
      rintro φ (rfl | rfl | rfl | rfl | rfl | rfl | rfl | rfl | rfl | rfl | rfl)
      all_goals first | exact stable_fx _ | exact stable_fr _ _ | exact stable_pF _ | exact stable_oF _ _
    · refine OgSteps.cons ?_ (OgSteps.cons ?_ (OgSteps.cons ?_ (OgSteps.cons ?_ (OgSteps.cons ?_ (OgSteps.cons ?_ (OgSteps.cons ?_ (OgSteps.cons ?_ (OgSteps.cons ?_ (OgSteps.cons ?_ (OgSteps.cons ?_ (OgSteps.nil)))))))))))
      · refine OgStep.pure ?_ ?_
        · rfl
        intro u W hS hp
        refine ⟨.slice (some y) L cap, ?_, rfl⟩
        simp only [ogMk, Act.put, List.setIfInBounds_toArray, List.set_cons_zero, List.set_cons_succ, Nat.zero_add, Nat.reduceAdd]
        simp [execOp, Act.eval, go_sem]
      · refine OgStep.pure ?_ ?_
        · rfl
        intro u W hS hp
        refine ⟨.int .i64 (P : Int), ?_, rfl⟩
        simp only [ogMk, Act.put, List.setIfInBounds_toArray, List.set_cons_zero, List.set_cons_succ, Nat.zero_add, Nat.reduceAdd]
        simp [execOp, Act.eval, go_sem]
      · refine OgStep.pure ?_ ?_
        · rfl
        intro u W hS hp
        have h0 : u 0 = .slice (some y) L cap := hp ⟨0, .data⟩ (by simp) rfl
        have h1 : u 1 = .int .i64 (P : Int) := hp ⟨1, .data⟩ (by simp) rfl
        have R := HSH.out W
        refine ⟨.slice (some y) P cap, ?_, rfl⟩
        simp only [ogMk, Act.put, List.setIfInBounds_toArray, List.set_cons_zero, List.set_cons_succ, Nat.zero_add, Nat.reduceAdd]
        simp [execOp, Act.eval, go_sem, h0, h1, R]
      · refine OgStep.pure ?_ ?_
        · rfl
        intro u W hS hp
        refine ⟨.slice (some y) L cap, ?_, rfl⟩
        simp only [ogMk, Act.put, List.setIfInBounds_toArray, List.set_cons_zero, List.set_cons_succ, Nat.zero_add, Nat.reduceAdd]
        simp [execOp, Act.eval, go_sem]
      · refine OgStep.pure ?_ ?_
        · rfl
        intro u W hS hp
        refine ⟨.int .i64 (P : Int), ?_, rfl⟩
        simp only [ogMk, Act.put, List.setIfInBounds_toArray, List.set_cons_zero, List.set_cons_succ, Nat.zero_add, Nat.reduceAdd]
        simp [execOp, Act.eval, go_sem]
      · refine OgStep.pure ?_ ?_
        · rfl
        intro u W hS hp
        have h4 : u 4 = .int .i64 (P : Int) := hp ⟨4, .data⟩ (by simp) rfl
        have R := HW.out
        refine ⟨.int .i64 ((P + 1 : Nat) : Int), ?_, rfl⟩
        simp only [ogMk, Act.put, List.setIfInBounds_toArray, List.set_cons_zero, List.set_cons_succ, Nat.zero_add, Nat.reduceAdd]
        simp [execOp, Act.eval, go_sem, h4, R]
      · refine OgStep.pure ?_ ?_
        · rfl
        intro u W hS hp
        have h3 : u 3 = .slice (some y) L cap := hp ⟨3, .data⟩ (by simp) rfl
        have h5 : u 5 = .int .i64 ((P + 1 : Nat) : Int) := hp ⟨5, .data⟩ (by simp) rfl
        have R := HSL.out W
        rw [Int.natCast_add, Int.natCast_one] at R
        refine ⟨.slice (dA (some y) cap (P + 1)) (L - (P + 1)) (cap - (P + 1)), ?_, rfl⟩
        simp only [ogMk, Act.put, List.setIfInBounds_toArray, List.set_cons_zero, List.set_cons_succ, Nat.zero_add, Nat.reduceAdd]
        simp [execOp, Act.eval, go_sem, h3, h5, R]
      · refine OgStep.made ?_ ?_
        · rfl
        intro u W hS hp
        have h2 : u 2 = .slice (some y) P cap := hp ⟨2, .data⟩ (by simp) rfl
        have h6 : u 6 = .slice (dA (some y) cap (P + 1)) (L - (P + 1)) (cap - (P + 1)) := hp ⟨6, .data⟩ (by simp) rfl
        refine ⟨.slice (some ⟨W.heap.size, 0, none⟩) 2 2, _, ?_, (Below.refl _ W).alloc (Nat.le_refl _) _, HPM.out W (HB1.out.trans (hS.mono HB1.out.size))⟩
        simp only [ogMk, Act.put, List.setIfInBounds_toArray, List.set_cons_zero, List.set_cons_succ, Nat.zero_add, Nat.reduceAdd]
        simp [execOp, Act.eval, go_sem, h2, h6]
      · refine OgStep.calls ?_ ?_
        · rfl
        intro u W hS hp
        obtain ⟨b, h7, hPm⟩ : pF ps (u 7) W := hp ⟨7, .data⟩ (by simp) rfl
        refine ⟨73, #[.slice (some ⟨b, 0, none⟩) 2 2], ?_, HCC.out W (HB1.out.trans (hS.mono HB1.out.size)) b hPm⟩
        simp only [ogMk, Act.put, List.setIfInBounds_toArray, List.set_cons_zero, List.set_cons_succ, Nat.zero_add, Nat.reduceAdd]
        rw [h7, HPL.out]
        simp [execOp, Act.eval, go_sem]
      · refine OgStep.pure ?_ ?_
        · rfl
        intro u W hS hp
        have h8 : oF w.heap.size ys (u 8) W := hp ⟨8, .data⟩ (by simp) rfl
        refine ⟨u 8, ?_, h8⟩
        simp only [ogMk, Act.put, List.setIfInBounds_toArray, List.set_cons_zero, List.set_cons_succ, Nat.zero_add, Nat.reduceAdd]
        simp [execOp, Act.eval, go_sem]
      · refine OgStep.pure ?_ ?_
        · rfl
        intro u W hS hp
        refine ⟨.int .i64 0, ?_, rfl⟩
        simp only [ogMk, Act.put, List.setIfInBounds_toArray, List.set_cons_zero, List.set_cons_succ, Nat.zero_add, Nat.reduceAdd]
        simp [execOp, Act.eval, go_sem]
    · intro u W hS hF'
      have hF9 : oF w.heap.size ys (u 9) W := hF' 9 (by decide)
      have hF := hF'
      have e0 : u 0 = .slice (some y) L cap := hF 0 (by decide)
      have e1 : u 1 = .int .i64 (P : Int) := hF 1 (by decide)
      have e2 : u 2 = .slice (some y) P cap := hF 2 (by decide)
      have e3 : u 3 = .slice (some y) L cap := hF 3 (by decide)
      have e4 : u 4 = .int .i64 (P : Int) := hF 4 (by decide)
      have e5 : u 5 = .int .i64 ((P + 1 : Nat) : Int) := hF 5 (by decide)
      have e6 : u 6 = .slice (dA (some y) cap (P + 1)) (L - (P + 1)) (cap - (P + 1)) := hF 6 (by decide)
      have e10 : u 10 = .int .i64 0 := hF 10 (by decide)
      simp only [ogMk, Act.put, List.setIfInBounds_toArray, List.set_cons_zero, List.set_cons_succ, Nat.zero_add, Nat.reduceAdd]
      rw [e0, e1, e2, e3, e4, e5, e6, e10]
      clear hF' e0 e1 e2 e3 e4 e5 e6 e10 hF
      go_wp2_with fail
      go_ret2
      exact out_yes (hF9 : W.ownsRow w.heap.size 44 8 (u 9) ys.length (hcs ys)) HOK.out HYL.out (HB1.out.trans (hS.mono HB1.out.size))

/-- The parts, one of them wherever it lies. -/
def pG (ps : Nat → List Pt) : Value → World → Prop := fun v W => ∃ g, pF (ps g) v W
theorem stable_pG (ps : Nat → List Pt) : Stable (pG ps) := fun _ _ _ ⟨g, h⟩ hb => ⟨g, stable_pF _ _ _ _ h hb⟩
theorem hs_c8 {W : World} {b : Nat} {x : Hr} (h : Hs W (some ⟨b, 0, none⟩) [x]) : W.cell? ⟨b, 0, none⟩ = some (.int .u32 x.a) ∧ W.cell? ⟨b, 1, none⟩ = some (.string x.T) ∧ W.cell? ⟨b, 2, none⟩ = some (.int .u8 x.m0) ∧ W.cell? ⟨b, 3, none⟩ = some (.int .u8 x.m1) ∧ W.cell? ⟨b, 4, none⟩ = some (.int .u8 x.m2) ∧ W.cell? ⟨b, 5, none⟩ = some (.int .u8 x.m3) ∧ W.cell? ⟨b, 6, none⟩ = some (.int .u8 x.m4) ∧ W.cell? ⟨b, 7, none⟩ = some (.int .u8 x.m5) := by
  have H : ∀ j v, (hl x)[j]? = some v → W.cell? ⟨b, j, none⟩ = some v := fun j v hv => by
    have := h.at (q := 0) (x := x) rfl j v hv
    rw [show ((⟨b, 0, none⟩ : Addr).add (0 * 8)).add j = ⟨b, j, none⟩ by rw [show (0 * 8 : Nat) = 0 from rfl, show (⟨b, 0, none⟩ : Addr).add 0 = ⟨b, 0, none⟩ from rfl, Addr.add_mid, Nat.zero_add]] at this
    exact this
  exact ⟨H 0 _ rfl, H 1 _ rfl, H 2 _ rfl, H 3 _ rfl, H 4 _ rfl, H 5 _ rfl, H 6 _ rfl, H 7 _ rfl⟩

set_option maxRecDepth 100000 in
set_option maxHeartbeats 4000000 in
theorem put_any (hh : Hr) (A : Option Addr) (xs : List Hr) (cap : Nat) (w : World) (hho : hh.ok) (h : Hs w A xs) (hc : xs.length ≤ cap) (hx9 : xs.length ≤ 900) :
    Calls Tryz.prog 30 #[.slice A xs.length cap, hv hh] w (OutPost w (putR xs hh) (putC xs hh)) := by
  have ha0 := hho.1
  have ha1 := hho.2.1
  have hle := lo_le hh.a xs
  have hln := h.1
  have R := Lib.hid h
  have HHO := Lib.hid hho
  have HP := Lib.hid (place_any hh.a A xs cap (w.alloc (Hx hh)) (h.below ((Below.refl _ w).alloc (Nat.le_refl _) _)) ha0 ha1)
  have HM := Lib.hid (may_any hh.T (w.alloc (Hx hh)) hho.2.2)
  have HBX0 := Lib.hid (hs_box w hh hho)
  have HBB0 := Lib.hid (show Below w.heap.size w (w.alloc (Hx hh)) from (Below.refl _ w).alloc (Nat.le_refl _) _)
  cases hY : mayB hh.T
  · have HT := Lib.hid (show putR xs hh = [] ∧ putC xs hh = 12 by simp [putR, putC, hY])
    rw [hY] at HM
    rw [HT.out.1, HT.out.2]
    clear hY h HT HP
    generalize xs.length = L at *
    obtain ⟨ha, hT, x0, x1, x2, x3, x4, x5⟩ := hh
    simp only [hv, Hx] at HM HBB0 ⊢
    go_enter Tryz.func30, Tryz.ntmps30
    go_wp2_with fail
    refine HM.out.mono ?_
    rintro e w1 ⟨rfl, rfl⟩
    go_wp2_with fail
    go_ret2
    exact out_no w _ 12 HBB0.out
  · rw [hY] at HM
    cases hB : isAt xs hh.a
    · rw [hB] at HP
      by_cases h48 : 48 ≤ xs.length
      · have HT := Lib.hid (show putR xs hh = [] ∧ putC xs hh = 4 by simp [putR, putC, hY, hB, h48])
        rw [HT.out.1, HT.out.2]
        clear hY hB h HT
        generalize xs.length = L at *
        generalize lo xs hh.a = P at *
        obtain ⟨ha, hT, x0, x1, x2, x3, x4, x5⟩ := hh
        simp only [hv, Hx] at HM HBB0 HP ⊢
        have h48' : (48 : Int) ≤ L := by omega
        go_enter Tryz.func30, Tryz.ntmps30
        go_wp2_with fail
        refine HM.out.mono ?_
        rintro e w1 ⟨rfl, rfl⟩
        go_wp2_with fail
        refine HP.out.mono ?_
        rintro e w1 ⟨rfl, n1, rfl⟩
        have HB1 := Lib.hid (bdrewN HBB0.out n1)
        go_wp2_with fail
        go_ret2
        exact out_no w _ 4 HB1.out
      · have HT := Lib.hid (show putR xs hh = ins xs hh ∧ putC xs hh = 0 by
          have e : putC xs hh = 0 := by simp [putC, hY, hB]; omega
          exact ⟨by simp [putR, e], e⟩)
        rw [HT.out.1, HT.out.2]
        obtain ⟨ys, hys⟩ : ∃ ys, ins xs hh = ys := ⟨_, rfl⟩
        obtain ⟨ps, hps⟩ : ∃ ps : Nat → List Pt, ps = fun g => [⟨A, xs.take (lo xs hh.a), cap⟩, ⟨some ⟨g, 0, none⟩, [hh], 1⟩, ⟨dA A cap (lo xs hh.a), xs.drop (lo xs hh.a), cap - lo xs hh.a⟩] := ⟨_, rfl⟩
        have e1 : (xs.take (lo xs hh.a)).length = lo xs hh.a := by rw [List.length_take]; omega
        have e2 : (xs.drop (lo xs hh.a)).length = xs.length - lo xs hh.a := by rw [List.length_drop]
        have hcat : ∀ g, cat (ps g) (ps g).length = ys := fun g => by rw [← hys, hps]; simp [cat, ins]
        have hyl : ys.length ≤ 1000 := by rw [← hys]; unfold ins; rw [List.length_append, List.length_append, e1, e2, List.length_singleton]; omega
        have hok : ∀ z ∈ ys, z.ok := fun z hz => by
          rcases ins_sub (hys ▸ hz : z ∈ ins xs hh) with rfl | hz
          · exact hho
          · exact hs_oks h z hz
        have HPM := Lib.hid (show ∀ W, Below w.heap.size w W → ∀ g, Hs W (some ⟨g, 0, none⟩) [hh] → pG ps (.slice (some ⟨W.heap.size, 0, none⟩) 3 3) (W.alloc (.cells #[.slice A (lo xs hh.a) cap, .slice (some ⟨g, 0, none⟩) 1 1, .slice (dA A cap (lo xs hh.a)) (xs.length - lo xs hh.a) (cap - lo xs hh.a)] 29)) from fun W hW g hg => by
          subst hps
          have hH := h.below hW
          have := pm_three W ⟨A, xs.take (lo xs hh.a), cap⟩ ⟨some ⟨g, 0, none⟩, [hh], 1⟩ ⟨dA A cap (lo xs hh.a), xs.drop (lo xs hh.a), cap - lo xs hh.a⟩ 29 (hH.take _) hg (hH.rest hc _)
          dsimp only at this
          rw [e1, e2] at this
          exact ⟨g, _, rfl, this⟩)
        have HCC := Lib.hid (show ∀ W, Below w.heap.size w W → ∀ g b, Pm W b (ps g) → Calls Tryz.prog 73 #[.slice (some ⟨b, 0, none⟩) 3 3] W fun e w' => ∃ v, e = .returned v ∧ Below W.heap.size W w' ∧ oF w.heap.size ys v w' from fun W hW g b hb => by
          have := concat_any (ps g) b 3 W hb (by rw [hcat]; exact hyl) (by rw [hps]; simp)
          rw [hcat, show (ps g).length = 3 by rw [hps]; rfl] at this
          refine this.mono ?_
          rintro e w' ⟨v, he, ho, hbb⟩
          exact ⟨v, he, hbb, own_base ho hW.size⟩)
        have HSH := Lib.hid (fun W => sl_h A xs.length cap (lo xs hh.a) (by omega) W)
        have HSL := Lib.hid (fun W => sl_l A xs.length cap (lo xs hh.a) hle hc W)
        have HPL := Lib.hid (show ∀ g, (ps g).length = 3 by intro g; rw [hps]; rfl)
        have HOK := Lib.hid hok
        have HYL := Lib.hid hyl
        rw [hys]
        clear hps hcat hys hok hyl e1 e2 h HT hB hY
        generalize xs.length = L at *
        generalize lo xs hh.a = P at *
        obtain ⟨ha, hT, x0, x1, x2, x3, x4, x5⟩ := hh
        simp only [hv, Hx] at HM HBB0 HP HBX0 ⊢
        have h48' : ¬ (48 : Int) ≤ L := by omega
        go_enter Tryz.func30, Tryz.ntmps30
        go_wp2_with fail
        refine HM.out.mono ?_
        rintro e w1 ⟨rfl, rfl⟩
        go_wp2_with fail
        refine HP.out.mono ?_
        rintro e w1 ⟨rfl, n1, hw1⟩
        have HB1 := Lib.hid (show Below w.heap.size w w1 from hw1 ▸ bdrewN HBB0.out n1)
        have HBX := Lib.hid (show Hs w1 (some ⟨w.heap.size, 0, none⟩) [⟨ha, hT, x0, x1, x2, x3, x4, x5⟩] from hw1 ▸ HBX0.out.drewN n1)
        clear hw1 HBX0 HM HP
        go_wp2_with fail
        refine wp_region_below [fx (.slice A L cap), fx (.int .i64 (P : Int)), fx (.slice A P cap), fx (.agg #[.int .u32 ha, .string hT, .int .u8 x0, .int .u8 x1, .int .u8 x2, .int .u8 x3, .int .u8 x4, .int .u8 x5]), hF ⟨ha, hT, x0, x1, x2, x3, x4, x5⟩, fx (.slice A L cap), fx (.int .i64 (P : Int)), fx (.slice (dA A cap P) (L - P) (cap - P)), pG ps, oF w.heap.size ys, oF w.heap.size ys, fx (.int .i64 0)]
          (by kernel_rfl) (by kernel_rfl) (by kernel_rfl) ?_ ?_ ?_
        · simp only [List.mem_cons, List.not_mem_nil, or_false]
          rintro φ (rfl | rfl | rfl | rfl | rfl | rfl | rfl | rfl | rfl | rfl | rfl | rfl)
          all_goals first | exact stable_fx _ | exact stable_fr _ _ | exact stable_pG _ | exact stable_oF _ _ | exact stable_hF _
        · refine OgSteps.cons ?_ (OgSteps.cons ?_ (OgSteps.cons ?_ (OgSteps.cons ?_ (OgSteps.cons ?_ (OgSteps.cons ?_ (OgSteps.cons ?_ (OgSteps.cons ?_ (OgSteps.cons ?_ (OgSteps.cons ?_ (OgSteps.cons ?_ (OgSteps.cons ?_ (OgSteps.nil))))))))))))
          · refine OgStep.pure ?_ ?_
            · rfl
            intro u W hS hp
            refine ⟨.slice A L cap, ?_, rfl⟩
            simp only [ogMk, Act.put, List.setIfInBounds_toArray, List.set_cons_zero, List.set_cons_succ, Nat.zero_add, Nat.reduceAdd]
            simp [execOp, Act.eval, go_sem]
          · refine OgStep.pure ?_ ?_
            · rfl
            intro u W hS hp
            refine ⟨.int .i64 (P : Int), ?_, rfl⟩
            simp only [ogMk, Act.put, List.setIfInBounds_toArray, List.set_cons_zero, List.set_cons_succ, Nat.zero_add, Nat.reduceAdd]
            simp [execOp, Act.eval, go_sem]
          · refine OgStep.pure ?_ ?_
            · rfl
            intro u W hS hp
            have h0 : u 0 = .slice A L cap := hp ⟨0, .data⟩ (by simp) rfl
            have h1 : u 1 = .int .i64 (P : Int) := hp ⟨1, .data⟩ (by simp) rfl
            have R := HSH.out W
            refine ⟨.slice A P cap, ?_, rfl⟩
            simp only [ogMk, Act.put, List.setIfInBounds_toArray, List.set_cons_zero, List.set_cons_succ, Nat.zero_add, Nat.reduceAdd]
            simp [execOp, Act.eval, go_sem, h0, h1, R]
          · refine OgStep.pure ?_ ?_
            · rfl
            intro u W hS hp
            obtain ⟨R0, R1, R2, R3, R4, R5, R6, R7⟩ := hs_c8 (HBX.out.below hS)
            refine ⟨.agg #[.int .u32 ha, .string hT, .int .u8 x0, .int .u8 x1, .int .u8 x2, .int .u8 x3, .int .u8 x4, .int .u8 x5], ?_, rfl⟩
            simp only [ogMk, Act.put, List.setIfInBounds_toArray, List.set_cons_zero, List.set_cons_succ, Nat.zero_add, Nat.reduceAdd]
            simp [execOp, Act.eval, go_sem, R0, R1, R2, R3, R4, R5, R6, R7]
          · refine OgStep.made ?_ ?_
            · rfl
            intro u W hS hp
            have h3 : u 3 = .agg #[.int .u32 ha, .string hT, .int .u8 x0, .int .u8 x1, .int .u8 x2, .int .u8 x3, .int .u8 x4, .int .u8 x5] := hp ⟨3, .data⟩ (by simp) rfl
            refine ⟨.slice (some ⟨W.heap.size, 0, none⟩) 1 1, _, ?_, (Below.refl _ W).alloc (Nat.le_refl _) _, ⟨_, rfl, hs_box W ⟨ha, hT, x0, x1, x2, x3, x4, x5⟩ HHO.out⟩⟩
            simp only [ogMk, Act.put, List.setIfInBounds_toArray, List.set_cons_zero, List.set_cons_succ, Nat.zero_add, Nat.reduceAdd]
            simp [execOp, Act.eval, go_sem, h3, Hx]
          · refine OgStep.pure ?_ ?_
            · rfl
            intro u W hS hp
            refine ⟨.slice A L cap, ?_, rfl⟩
            simp only [ogMk, Act.put, List.setIfInBounds_toArray, List.set_cons_zero, List.set_cons_succ, Nat.zero_add, Nat.reduceAdd]
            simp [execOp, Act.eval, go_sem]
          · refine OgStep.pure ?_ ?_
            · rfl
            intro u W hS hp
            refine ⟨.int .i64 (P : Int), ?_, rfl⟩
            simp only [ogMk, Act.put, List.setIfInBounds_toArray, List.set_cons_zero, List.set_cons_succ, Nat.zero_add, Nat.reduceAdd]
            simp [execOp, Act.eval, go_sem]
          · refine OgStep.pure ?_ ?_
            · rfl
            intro u W hS hp
            have h5 : u 5 = .slice A L cap := hp ⟨5, .data⟩ (by simp) rfl
            have h6 : u 6 = .int .i64 (P : Int) := hp ⟨6, .data⟩ (by simp) rfl
            have R := HSL.out W
            refine ⟨.slice (dA A cap P) (L - P) (cap - P), ?_, rfl⟩
            simp only [ogMk, Act.put, List.setIfInBounds_toArray, List.set_cons_zero, List.set_cons_succ, Nat.zero_add, Nat.reduceAdd]
            simp [execOp, Act.eval, go_sem, h5, h6, R]
          · refine OgStep.made ?_ ?_
            · rfl
            intro u W hS hp
            obtain ⟨b4, h4, hH4⟩ : hF ⟨ha, hT, x0, x1, x2, x3, x4, x5⟩ (u 4) W := hp ⟨4, .data⟩ (by simp) rfl
            have h2 : u 2 = .slice A P cap := hp ⟨2, .data⟩ (by simp) rfl
            have h7 : u 7 = .slice (dA A cap P) (L - P) (cap - P) := hp ⟨7, .data⟩ (by simp) rfl
            refine ⟨.slice (some ⟨W.heap.size, 0, none⟩) 3 3, _, ?_, (Below.refl _ W).alloc (Nat.le_refl _) _, HPM.out W (HB1.out.trans (hS.mono HB1.out.size)) b4 hH4⟩
            simp only [ogMk, Act.put, List.setIfInBounds_toArray, List.set_cons_zero, List.set_cons_succ, Nat.zero_add, Nat.reduceAdd]
            rw [h2, h4, h7]
            simp [execOp, Act.eval, go_sem]
          · refine OgStep.calls ?_ ?_
            · rfl
            intro u W hS hp
            obtain ⟨b4, b, h8, hPm⟩ : pG ps (u 8) W := hp ⟨8, .data⟩ (by simp) rfl
            refine ⟨73, #[.slice (some ⟨b, 0, none⟩) 3 3], ?_, HCC.out W (HB1.out.trans (hS.mono HB1.out.size)) b4 b hPm⟩
            simp only [ogMk, Act.put, List.setIfInBounds_toArray, List.set_cons_zero, List.set_cons_succ, Nat.zero_add, Nat.reduceAdd]
            rw [h8, HPL.out b4]
            simp [execOp, Act.eval, go_sem]
          · refine OgStep.pure ?_ ?_
            · rfl
            intro u W hS hp
            have h9 : oF w.heap.size ys (u 9) W := hp ⟨9, .data⟩ (by simp) rfl
            refine ⟨u 9, ?_, h9⟩
            simp only [ogMk, Act.put, List.setIfInBounds_toArray, List.set_cons_zero, List.set_cons_succ, Nat.zero_add, Nat.reduceAdd]
            simp [execOp, Act.eval, go_sem]
          · refine OgStep.pure ?_ ?_
            · rfl
            intro u W hS hp
            refine ⟨.int .i64 0, ?_, rfl⟩
            simp only [ogMk, Act.put, List.setIfInBounds_toArray, List.set_cons_zero, List.set_cons_succ, Nat.zero_add, Nat.reduceAdd]
            simp [execOp, Act.eval, go_sem]
        · intro u W hS hF'
          have hF10 : oF w.heap.size ys (u 10) W := hF' 10 (by decide)
          have hF := hF'
          have e0 : u 0 = .slice A L cap := hF 0 (by decide)
          have e1 : u 1 = .int .i64 (P : Int) := hF 1 (by decide)
          have e2 : u 2 = .slice A P cap := hF 2 (by decide)
          have e3 : u 3 = .agg #[.int .u32 ha, .string hT, .int .u8 x0, .int .u8 x1, .int .u8 x2, .int .u8 x3, .int .u8 x4, .int .u8 x5] := hF 3 (by decide)
          have e5 : u 5 = .slice A L cap := hF 5 (by decide)
          have e6 : u 6 = .int .i64 (P : Int) := hF 6 (by decide)
          have e7 : u 7 = .slice (dA A cap P) (L - P) (cap - P) := hF 7 (by decide)
          have e11 : u 11 = .int .i64 0 := hF 11 (by decide)
          simp only [ogMk, Act.put, List.setIfInBounds_toArray, List.set_cons_zero, List.set_cons_succ, Nat.zero_add, Nat.reduceAdd]
          rw [e0, e1, e2, e3, e5, e6, e7, e11]
          clear hF' e0 e1 e2 e3 e5 e6 e7 e11 hF
          go_wp2_with fail
          go_ret2
          exact out_yes (hF10 : W.ownsRow w.heap.size 44 8 (u 10) ys.length (hcs ys)) HOK.out HYL.out (HB1.out.trans (hS.mono HB1.out.size))
    · rw [hB] at HP
      have HT := Lib.hid (show putR xs hh = [] ∧ putC xs hh = 6 by simp [putR, putC, hY, hB])
      rw [HT.out.1, HT.out.2]
      clear hY hB h HT
      generalize xs.length = L at *
      generalize lo xs hh.a = P at *
      obtain ⟨ha, hT, x0, x1, x2, x3, x4, x5⟩ := hh
      simp only [hv, Hx] at HM HBB0 HP ⊢
      go_enter Tryz.func30, Tryz.ntmps30
      go_wp2_with fail
      refine HM.out.mono ?_
      rintro e w1 ⟨rfl, rfl⟩
      go_wp2_with fail
      refine HP.out.mono ?_
      rintro e w1 ⟨rfl, n1, rfl⟩
      have HB1 := Lib.hid (bdrewN HBB0.out n1)
      go_wp2_with fail
      go_ret2
      exact out_no w _ 6 HB1.out
end Go.Proofs.YtilneflfeegnfaaGreat.Hl

/-
  The contract of held.Right. Conditions: the row lies in memory.
-/
set_option linter.unusedSimpArgs false
set_option linter.unusedVariables false
namespace Go.Proofs.YtilneflfeegnfaaGreat.Hl
open Go.RowKit

/-- Whether a holder stands right in its row. -/
def rOk (xs : List Hr) (i : Nat) : Bool := match xs[i]? with
  | some x => mayB x.T && (i == 0 || (match xs[i - 1]? with
    | some y => decide (y.a < x.a)
    | none => false))
  | none => true
def rPre (xs : List Hr) (k : Nat) : Bool := (List.range k).all (rOk xs)
def rightB (xs : List Hr) : Bool := decide (xs.length ≤ 48) && rPre xs xs.length
theorem rPre_zero (xs : List Hr) : rPre xs 0 = true := rfl
theorem rPre_succ (xs : List Hr) (k : Nat) : rPre xs (k + 1) = (rPre xs k && rOk xs k) := by
  unfold rPre
  rw [List.range_succ, List.all_append]
  simp
theorem rPre_false (xs : List Hr) (k n : Nat) (h : rPre xs k = false) (hk : k ≤ n) : rPre xs n = false := by
  induction hk with
  | refl => exact h
  | step h1 ih => rw [rPre_succ, ih]; rfl
set_option maxRecDepth 100000 in
set_option maxHeartbeats 4000000 in
theorem right15_any (A : Option Addr) (xs : List Hr) (cap : Nat) (w : World) (h : Hs w A xs) (hc : xs.length ≤ cap) :
    Calls Tryz.prog 38 #[.slice A xs.length cap] w fun e w' => e = .returned (.bool (rightB xs)) ∧ Below w.heap.size w w' := by
  have hln := h.1
  have R := Lib.hid h
  by_cases h48 : 48 < xs.length
  · have HF := Lib.hid (show rightB xs = false by simp [rightB]; omega)
    have h48' : (48 : Int) < xs.length := by omega
    clear h
    generalize xs.length = L at *
    go_enter Tryz.func38, Tryz.ntmps38
    go_wp2_with fail
    go_ret
    exact ⟨by rw [HF.out]; rfl, Below.refl _ _⟩
  · have HF := Lib.hid (show rightB xs = rPre xs xs.length by simp [rightB]; omega)
    have h48' : ¬ (48 : Int) < xs.length := by omega
    clear h
    obtain ⟨L, hL⟩ : ∃ L, xs.length = L := ⟨_, rfl⟩
    have HL := Lib.hid hL
    rw [hL] at hc hln h48 h48' HF ⊢
    clear hL
    go_enter Tryz.func38, Tryz.ntmps38
    go_wp2_with fail
    go_loopw [10] (fun i wr => ∃ k : Nat, i = .int .i64 k ∧ k ≤ L ∧ Hid (rPre xs k = true ∧ Below w.heap.size w wr)) (fun i _ => L - (intOf i).toNat)
    case atStart => exact ⟨0, rfl, by omega, Lib.hid ⟨rPre_zero _, Below.refl _ _⟩⟩
    case round =>
      obtain ⟨k, rfl, hk, HH⟩ := hrel
      by_cases hlt : k < L
      · obtain ⟨x, hx⟩ : ∃ x, xs[k]? = some x := ⟨_, List.getElem?_eq_getElem (by rw [HL.out]; exact hlt)⟩
        obtain ⟨y, rfl⟩ := hs_some R.out (by rw [HL.out]; omega)
        have R1 := Lib.hid (R.out.below HH.out.2)
        have hok := R.out.ok hx
        have hat := R1.out.at hx
        have HS := Lib.hid (rPre_succ xs k)
        have HN := Lib.hid (rPre_false xs (k + 1) L)
        have HM := Lib.hid fun W => may_any x.T W hok.2.2
        have X0 : 0 ≤ x.a := hok.1
        have X1 : x.a < 4294967296 := hok.2.1
        cases hY : mayB x.T
        · rw [hY] at HM
          have HO := Lib.hid (show rOk xs k = false by simp [rOk, hx, hY])
          obtain ⟨xa, xT, x0, x1, x2, x3, x4, x5⟩ := x
          clear hx hok hY
          go_wp2_with (refine at_load33 _ rfl rfl _ _ rfl hat ?_)
          go_quiet ((go_at_call 72; exact Calls.quiet_of_same (HM.out _)))
          go_wp2_with fail
          go_ret
          exact ⟨ret_bool (by rw [HF.out, HN.out (by rw [HS.out, HO.out]; simp) (by omega)]), bdrewN (HH.out.2.alloc HH.out.2.size _) _⟩
        · rw [hY] at HM
          rcases k with _ | j
          · have HO := Lib.hid (show rOk xs 0 = true by simp [rOk, hx, hY])
            obtain ⟨xa, xT, x0, x1, x2, x3, x4, x5⟩ := x
            clear hx hok hY
            go_wp2_with (refine at_load33 _ rfl rfl _ _ rfl hat ?_)
            go_quiet ((go_at_call 72; exact Calls.quiet_of_same (HM.out _)))
            go_wp2_with fail
            go_roundw
            case rel => exact ⟨1, by go_num, by omega, Lib.hid ⟨by rw [HS.out, HH.out.1, HO.out]; rfl, bdrewN (HH.out.2.alloc HH.out.2.size _) _⟩⟩
            case measure => simp [intOf]; omega
          · obtain ⟨z, hz⟩ : ∃ z, xs[j]? = some z := ⟨_, List.getElem?_eq_getElem (by rw [HL.out]; omega)⟩
            have c0 : wr.cell? (y.add (j * 8)) = some (.int .u32 z.a) := by
              have := R1.out.at hz 0 _ rfl
              rwa [Addr.add_add] at this
            have hO : rOk xs (j + 1) = decide (z.a < x.a) := by simp [rOk, hx, hY, hz]
            have hj : IntKind.i64.wrap (j : Int) = (j : Int) := i64_nat (by omega)
            have hjL : (j : Int) < L := by omega
            have hyb := World.block_lt_of_cell? _ _ c0
            have hyn : (y.add (j * 8)).block ≠ wr.heap.size := by omega
            by_cases hlt2 : z.a < x.a
            · have HO := Lib.hid (show rOk xs (j + 1) = true by rw [hO]; simpa using hlt2)
              have hle2 : ¬ x.a ≤ z.a := by omega
              obtain ⟨xa, xT, x0, x1, x2, x3, x4, x5⟩ := x
              clear hx hz hok hY hO
              go_wp2_with (refine at_load33 _ rfl rfl _ _ rfl hat ?_)
              go_quiet ((go_at_call 72; exact Calls.quiet_of_same (HM.out _)))
              go_wp2_with fail
              go_roundw
              case rel => exact ⟨j + 2, by go_num, by omega, Lib.hid ⟨by rw [HS.out, HH.out.1, HO.out]; rfl, bdrewN (HH.out.2.alloc HH.out.2.size _) _⟩⟩
              case measure => simp [intOf]; omega
            · have HO := Lib.hid (show rOk xs (j + 1) = false by rw [hO]; simpa using hlt2)
              have hle2 : x.a ≤ z.a := by omega
              obtain ⟨xa, xT, x0, x1, x2, x3, x4, x5⟩ := x
              clear hx hz hok hY hO
              go_wp2_with (refine at_load33 _ rfl rfl _ _ rfl hat ?_)
              go_quiet ((go_at_call 72; exact Calls.quiet_of_same (HM.out _)))
              go_wp2_with fail
              go_ret
              exact ⟨ret_bool (by rw [HF.out, HN.out (by rw [HS.out, HO.out]; simp) (by omega)]), bdrewN (HH.out.2.alloc HH.out.2.size _) _⟩
      · obtain rfl : k = L := by omega
        go_wp2_with fail
        go_ret
        exact ⟨ret_bool (by rw [HF.out, HH.out.1]), HH.out.2⟩
end Go.Proofs.YtilneflfeegnfaaGreat.Hl

/-
  Rows that rise: who is in them, what a change does to them, which address is the first that nobody has. No condition but those that each theorem names.
-/
set_option linter.unusedSimpArgs false
set_option linter.unusedVariables false
namespace Go.Proofs.YtilneflfeegnfaaGreat.Hl
theorem ins_length (ys : List Hr) (h : Hr) : (ins ys h).length = ys.length + 1 := by
  unfold ins
  have := lo_le h.a ys
  rw [List.length_append, List.length_append, List.length_take, List.length_drop, List.length_singleton]
  omega
theorem put_zero {ys : List Hr} {h : Hr} (e : putC ys h = 0) : ys.length < 48 ∧ isAt ys h.a = false ∧ mayB h.T = true ∧ putR ys h = ins ys h := by
  have hr : putR ys h = ins ys h := by simp [putR, e]
  unfold putC at e
  split at e
  · cases e
  · rename_i h1
    split at e
    · cases e
    · rename_i h2
      split at e
      · cases e
      · rename_i h3
        exact ⟨by omega, by simpa using h2, by simpa using h1, hr⟩
open Go.RowKit

/-- A row that rises. -/
def Srt (ys : List Hr) : Prop := ys.Pairwise (fun x y => x.a < y.a)
theorem Srt.nil : Srt [] := List.Pairwise.nil
theorem Srt.lt {ys : List Hr} (h : Srt ys) {i j : Nat} {x y : Hr} (hij : i < j) (hx : ys[i]? = some x) (hy : ys[j]? = some y) : x.a < y.a := by
  obtain ⟨h1, rfl⟩ := List.getElem?_eq_some_iff.1 hx
  obtain ⟨h2, rfl⟩ := List.getElem?_eq_some_iff.1 hy
  exact List.pairwise_iff_getElem.1 h i j h1 h2 hij
theorem Srt.at {ys : List Hr} (h : Srt ys) {x : Hr} (hx : x ∈ ys) : ys[lo ys x.a]? = some x := by
  obtain ⟨q, hq, rfl⟩ := List.mem_iff_getElem.1 hx
  have hx' := List.getElem?_eq_getElem hq
  have hge : ¬ q < lo ys ys[q].a := fun hlt => by
    have := lo_lt _ ys q _ hlt hx'
    omega
  have hle := lo_le ys[q].a ys
  rcases Nat.lt_or_ge (lo ys ys[q].a) q with hlt | hge2
  · exfalso
    have hlL : lo ys ys[q].a < ys.length := by omega
    obtain ⟨z, hz⟩ : ∃ z, ys[lo ys ys[q].a]? = some z := ⟨ys[lo ys ys[q].a], List.getElem?_eq_getElem hlL⟩
    have h1 := h.lt hlt hz hx'
    exact lo_ge _ ys z hz h1
  · have : lo ys ys[q].a = q := by omega
    rw [this]
    exact hx'
theorem Srt.mem {ys : List Hr} (h : Srt ys) {x : Hr} (hx : x ∈ ys) : isAt ys x.a = true ∧ gt ys x.a = x := by
  have e := h.at hx
  have hi : isAt ys x.a = true := by unfold isAt; rw [e]; simp
  exact ⟨hi, by unfold gt; rw [if_pos hi, e]; rfl⟩
theorem isAt_mem {ys : List Hr} {a : Int} (h : isAt ys a = true) : gt ys a ∈ ys ∧ (gt ys a).a = a := by
  obtain ⟨x, hx, hxa, _⟩ := isAt_some h
  have : gt ys a = x := by unfold gt; rw [if_pos h, hx]; rfl
  rw [this]
  exact ⟨List.mem_of_getElem? hx, hxa⟩
theorem isAt_none {ys : List Hr} {a : Int} (h : isAt ys a = false) : gt ys a = zh := by
  unfold gt
  rw [if_neg (by rw [h]; simp)]
theorem Srt.not {ys : List Hr} (h : Srt ys) {a : Int} (hi : isAt ys a = false) : ∀ x ∈ ys, x.a ≠ a := by
  rintro x hx rfl
  rw [(h.mem hx).1] at hi
  cases hi
theorem take_lo {ys : List Hr} (a : Int) : ∀ x ∈ ys.take (lo ys a), x.a < a := by
  intro x hx
  obtain ⟨q, hq, rfl⟩ := List.mem_iff_getElem.1 hx
  rw [List.length_take] at hq
  rw [List.getElem_take]
  exact lo_lt a ys q _ (by omega) (List.getElem?_eq_getElem (by omega))
theorem Srt.drop_lo {ys : List Hr} (h : Srt ys) (a : Int) : ∀ x ∈ ys.drop (lo ys a), a ≤ x.a := by
  intro x hx
  obtain ⟨q, hq, rfl⟩ := List.mem_iff_getElem.1 hx
  rw [List.length_drop] at hq
  rw [List.getElem_drop]
  obtain ⟨z, hz⟩ : ∃ z, ys[lo ys a]? = some z := ⟨_, List.getElem?_eq_getElem (by omega)⟩
  have hz2 := lo_ge a ys z hz
  rcases Nat.eq_zero_or_pos q with rfl | hp
  · have := (List.getElem?_eq_some_iff.1 hz).2
    simp only [Nat.add_zero]
    rw [this]; omega
  · have := h.lt (show lo ys a < lo ys a + q by omega) hz (List.getElem?_eq_getElem (by omega))
    omega
theorem Srt.ins {ys : List Hr} {g : Hr} (h : Srt ys) (hi : isAt ys g.a = false) : Srt (ins ys g) := by
  unfold YtilneflfeegnfaaGreat.Hl.ins Srt
  rw [List.append_assoc, List.pairwise_append]
  refine ⟨h.sublist (List.take_sublist _ _), ?_, ?_⟩
  · rw [List.singleton_append, List.pairwise_cons]
    refine ⟨fun x hx => ?_, h.sublist (List.drop_sublist _ _)⟩
    have h1 := h.drop_lo g.a x hx
    have h2 := h.not hi x (List.mem_of_mem_drop hx)
    omega
  · intro x hx y hy
    have h1 := take_lo g.a x hx
    rcases List.mem_append.1 hy with hy | hy
    · have : y = g := by simpa using hy
      rw [this]; exact h1
    · have := h.drop_lo g.a y hy
      omega
theorem Srt.del {ys : List Hr} (h : Srt ys) (a : Int) : Srt (del ys a) := by
  unfold YtilneflfeegnfaaGreat.Hl.del
  refine List.Pairwise.sublist ?_ h
  conv => rhs; rw [← List.take_append_drop (lo ys a) ys]
  refine List.Sublist.append (List.Sublist.refl _) ?_
  rw [← List.drop_drop]
  exact List.drop_sublist _ _
theorem mem_ins {ys : List Hr} {g x : Hr} : x ∈ ins ys g ↔ x = g ∨ x ∈ ys := by
  refine ⟨ins_sub, ?_⟩
  unfold YtilneflfeegnfaaGreat.Hl.ins
  rintro (rfl | hx)
  · simp
  · have : x ∈ ys.take (lo ys g.a) ++ ys.drop (lo ys g.a) := by rw [List.take_append_drop]; exact hx
    rcases List.mem_append.1 this with h | h
    · exact List.mem_append_left _ (List.mem_append_left _ h)
    · exact List.mem_append_right _ h
theorem Srt.mem_del {ys : List Hr} (h : Srt ys) {a : Int} (hi : isAt ys a = true) {x : Hr} : x ∈ YtilneflfeegnfaaGreat.Hl.del ys a ↔ x ∈ ys ∧ x.a ≠ a := by
  obtain ⟨z, hz, hza, hlt⟩ := isAt_some hi
  constructor
  · intro hx
    refine ⟨del_sub hx, ?_⟩
    unfold YtilneflfeegnfaaGreat.Hl.del at hx
    rcases List.mem_append.1 hx with hx | hx
    · have := take_lo a x hx; omega
    · obtain ⟨q, hq, rfl⟩ := List.mem_iff_getElem.1 hx
      rw [List.length_drop] at hq
      rw [List.getElem_drop]
      have := h.lt (show lo ys a < lo ys a + 1 + q by omega) hz (List.getElem?_eq_getElem (by omega))
      omega
  · rintro ⟨hx, hne⟩
    unfold YtilneflfeegnfaaGreat.Hl.del
    have hx' : x ∈ ys.take (lo ys a) ++ ys.drop (lo ys a) := by rw [List.take_append_drop]; exact hx
    rcases List.mem_append.1 hx' with h1 | h1
    · exact List.mem_append_left _ h1
    · refine List.mem_append_right _ ?_
      rw [List.drop_eq_getElem_cons hlt] at h1
      rcases List.mem_cons.1 h1 with rfl | h1
      · exfalso
        have := (List.getElem?_eq_some_iff.1 hz).2
        rw [this] at hne
        exact hne hza
      · exact h1
theorem del_length {ys : List Hr} {a : Int} (hi : isAt ys a = true) : (del ys a).length + 1 = ys.length := by
  obtain ⟨_, _, _, hlt⟩ := isAt_some hi
  unfold del
  rw [List.length_append, List.length_take, List.length_drop]
  omega
/-- What a row with one more, or one less, tells. -/
theorem Srt.ins_at {ys : List Hr} {g : Hr} (h : Srt ys) (hi : isAt ys g.a = false) (a : Int) : isAt (YtilneflfeegnfaaGreat.Hl.ins ys g) a = (decide (a = g.a) || isAt ys a) ∧ gt (YtilneflfeegnfaaGreat.Hl.ins ys g) a = if a = g.a then g else gt ys a := by
  have hs := h.ins hi
  by_cases e : a = g.a
  · subst e
    have := hs.mem (mem_ins.2 (.inl rfl) : g ∈ YtilneflfeegnfaaGreat.Hl.ins ys g)
    exact ⟨by rw [this.1]; simp, by rw [this.2]; simp⟩
  · rw [if_neg e, decide_eq_false e, Bool.false_or]
    cases hb : isAt ys a
    · cases hc : isAt (YtilneflfeegnfaaGreat.Hl.ins ys g) a
      · exact ⟨rfl, by rw [isAt_none hb, isAt_none hc]⟩
      · exfalso
        obtain ⟨h1, h2⟩ := isAt_mem hc
        rcases mem_ins.1 h1 with h3 | h3
        · rw [h3] at h2; exact e h2.symm
        · exact h.not hb _ h3 h2
    · obtain ⟨h1, h2⟩ := isAt_mem hb
      have := hs.mem (mem_ins.2 (.inr h1) : gt ys a ∈ YtilneflfeegnfaaGreat.Hl.ins ys g)
      rw [h2] at this
      exact this
theorem Srt.del_at {ys : List Hr} {b : Int} (h : Srt ys) (hi : isAt ys b = true) (a : Int) : isAt (YtilneflfeegnfaaGreat.Hl.del ys b) a = (!decide (a = b) && isAt ys a) ∧ gt (YtilneflfeegnfaaGreat.Hl.del ys b) a = if a = b then zh else gt ys a := by
  have hs := h.del b
  by_cases e : a = b
  · subst e
    have hf : isAt (YtilneflfeegnfaaGreat.Hl.del ys a) a = false := by
      cases hc : isAt (YtilneflfeegnfaaGreat.Hl.del ys a) a
      · rfl
      · obtain ⟨h1, h2⟩ := isAt_mem hc
        exact absurd h2 ((h.mem_del hi).1 h1).2
    exact ⟨by rw [hf]; simp, by rw [isAt_none hf]; simp⟩
  · rw [if_neg e, decide_eq_false e, Bool.not_false, Bool.true_and]
    cases hb : isAt ys a
    · cases hc : isAt (YtilneflfeegnfaaGreat.Hl.del ys b) a
      · exact ⟨rfl, by rw [isAt_none hb, isAt_none hc]⟩
      · exfalso
        obtain ⟨h1, h2⟩ := isAt_mem hc
        exact h.not hb _ (del_sub h1) h2
    · obtain ⟨h1, h2⟩ := isAt_mem hb
      have := hs.mem ((h.mem_del hi).2 ⟨h1, by rw [h2]; exact e⟩)
      rw [h2] at this
      exact this
theorem lo_ins {ys : List Hr} {g : Hr} (h : Srt ys) (hi : isAt ys g.a = false) : lo (ins ys g) g.a = lo ys g.a := by
  have hs := h.ins hi
  have e := hs.at (mem_ins.2 (.inl rfl) : g ∈ YtilneflfeegnfaaGreat.Hl.ins ys g)
  have hle := lo_le g.a ys
  have e2 : (ins ys g)[lo ys g.a]? = some g := by
    unfold ins
    rw [List.append_assoc, List.getElem?_append_right (by rw [List.length_take]; omega), List.length_take, Nat.min_eq_left hle, Nat.sub_self]
    rfl
  rcases Nat.lt_trichotomy (lo (ins ys g) g.a) (lo ys g.a) with hl | hl | hl
  · have := hs.lt hl e e2; omega
  · exact hl
  · have := hs.lt hl e2 e; omega
/-- Who puts one and takes it has the row that was. -/
theorem del_ins {ys : List Hr} {g : Hr} (h : Srt ys) (hi : isAt ys g.a = false) : del (ins ys g) g.a = ys := by
  have hle := lo_le g.a ys
  unfold del
  rw [lo_ins h hi]
  unfold ins
  have e1 : (ys.take (lo ys g.a)).length = lo ys g.a := by rw [List.length_take]; omega
  rw [List.append_assoc, List.take_append_of_le_length (by omega), List.take_of_length_le (by omega), List.drop_append, List.drop_eq_nil_of_le (by omega), e1]
  rw [show lo ys g.a + 1 - lo ys g.a = 1 by omega]
  simp
/-- A row that rises, of owners that may be, of up to 48, is right. -/
theorem Srt.right {ys : List Hr} (h : Srt ys) (hm : ∀ x ∈ ys, mayB x.T = true) (hn : ys.length ≤ 48) : rightB ys = true := by
  unfold rightB
  rw [decide_eq_true hn, Bool.true_and]
  unfold rPre
  rw [List.all_eq_true]
  intro i _
  unfold rOk
  split
  · rename_i x hx
    rw [hm x (List.mem_of_getElem? hx), Bool.true_and]
    rcases i with _ | j
    · rfl
    · obtain ⟨y, hy⟩ : ∃ y, ys[j]? = some y := ⟨_, List.getElem?_eq_getElem (by have := (List.getElem?_eq_some_iff.1 hx).1; omega)⟩
      simp only [Nat.add_sub_cancel, hy]
      rw [decide_eq_true (h.lt (Nat.lt_succ_self j) hy hx)]
      simp
  · rfl

end Go.Proofs.YtilneflfeegnfaaGreat.Hl

