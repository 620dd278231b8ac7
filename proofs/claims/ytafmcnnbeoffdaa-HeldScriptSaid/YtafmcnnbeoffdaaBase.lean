/-
  A holder, and a row of holders, as plain data and in memory: what a load and a comparison of one do. No condition.
-/
import Derived.Test.YtafmcnnbeoffdaaProg
import Derived.Test.YtafmcnnbeoffdaaBits
import Derived.WalkKit
import Derived.Lib.Strings
import Derived.WalkLawsBesides
import Derived.BigQuiet
import Derived.Deep.QuietTactic
import Derived.Deep.MidRow
import Derived.Deep.CutRange
import Derived.Deep.LoopGhost
import Derived.Deep.Slices
import Derived.Deep.OwnRows
import Derived.Deep.AppendLies
import Derived.Laws.OwnMore
import Derived.Laws.AppendOwn
import Derived.Laws.ResultCell
import Derived.Maps.AppendAt
import Derived.RegionTactic
import Derived.OwnWalk
import Derived.Lib.Hide
import Derived.Lib.MinMax
import Derived.Lib.QuietBelow
import Derived.StillTailTactics
set_option linter.unusedSimpArgs false
set_option linter.unusedVariables false
namespace Go.Proofs.Ytafmcnnbeoffdaa
open Go.RowKit

structure Hr where
  a : Int
  T : ByteArray
  m0 : Int
  m1 : Int
  m2 : Int
  m3 : Int
  m4 : Int
  m5 : Int
/-- What a process can have. -/
def Hr.ok (x : Hr) : Prop := 0 ≤ x.a ∧ x.a < 4294967296 ∧ x.T.size ≤ 9223372036854775807
def zh : Hr := ⟨0, ⟨#[]⟩, 0, 0, 0, 0, 0, 0⟩
theorem zh_ok : zh.ok := ⟨by decide, by decide, by decide⟩
/-- The cells of a holder, its value, a block with it. -/
def hl (x : Hr) : List Value := [.int .u32 x.a, .string x.T, .int .u8 x.m0, .int .u8 x.m1, .int .u8 x.m2, .int .u8 x.m3, .int .u8 x.m4, .int .u8 x.m5]
def hv (x : Hr) : Value := .agg #[.int .u32 x.a, .string x.T, .int .u8 x.m0, .int .u8 x.m1, .int .u8 x.m2, .int .u8 x.m3, .int .u8 x.m4, .int .u8 x.m5]
def Hx (x : Hr) : Obj := .cells #[.int .u32 x.a, .string x.T, .int .u8 x.m0, .int .u8 x.m1, .int .u8 x.m2, .int .u8 x.m3, .int .u8 x.m4, .int .u8 x.m5] 33
theorem hl_length (x : Hr) : (hl x).length = 8 := rfl
theorem hl_one (x : Hr) : ∀ u ∈ hl x, u.oneCell' = true := by
  intro u hu
  simp [hl] at hu
  rcases hu with rfl | rfl | rfl | rfl | rfl | rfl | rfl | rfl <;> rfl
def hcs (xs : List Hr) : List Value := xs.flatMap hl
theorem hcs_append (xs ys : List Hr) : hcs (xs ++ ys) = hcs xs ++ hcs ys := by simp [hcs]
theorem hcs_one (xs : List Hr) : ∀ u ∈ hcs xs, u.oneCell' = true := by
  intro u hu
  obtain ⟨r, _, h⟩ := List.mem_flatMap.1 hu
  exact hl_one r u h
theorem hcs_length (xs : List Hr) : (hcs xs).length = xs.length * 8 := by
  induction xs with
  | nil => rfl
  | cons x r ih => rw [hcs, List.flatMap_cons, List.length_append, ← hcs, ih, hl_length, List.length_cons]; omega
theorem hcs_at (xs : List Hr) : ∀ (q : Nat) (x : Hr) (j : Nat), xs[q]? = some x → j < 8 → (hcs xs)[q * 8 + j]? = (hl x)[j]? := by
  induction xs with
  | nil => intro q x j h; simp at h
  | cons y r ih =>
    intro q x j h hj
    rw [hcs, List.flatMap_cons, ← hcs]
    cases q with
    | zero =>
      simp at h
      subst h
      rw [List.getElem?_append_left (by rw [hl_length]; omega)]
      simp
    | succ q =>
      rw [List.getElem?_append_right (by rw [hl_length]; omega), hl_length, show (q + 1) * 8 + j - 8 = q * 8 + j by omega]
      exact ih q x j (by simpa using h) hj
/-- The holders that a slice's value has, wherever they lie. -/
def Hs (w : World) (A : Option Addr) (xs : List Hr) : Prop :=
  xs.length ≤ 140737488355328 ∧ ∀ (q : Nat) (x : Hr), xs[q]? = some x → x.ok ∧ ∃ y, A = some y ∧ ∀ j v, (hl x)[j]? = some v → w.cell? (y.add (q * 8 + j)) = some v
theorem Hs.nil (w : World) (A : Option Addr) : Hs w A [] := ⟨by simp, fun q x h => by simp at h⟩
theorem Hs.keep {w w' : World} {A : Option Addr} {xs : List Hr} {B : Nat} (h : Hs w A xs) (hb : Below B w w') (hB : ∀ y, A = some y → y.block < B) : Hs w' A xs := by
  refine ⟨h.1, fun q x hq => ?_⟩
  obtain ⟨hk, y, hy, hc⟩ := h.2 q x hq
  refine ⟨hk, y, hy, fun j v hv => (hb.cell (p := y.add (q * 8 + j)) ?_).trans (hc j v hv)⟩
  rw [show (y.add (q * 8 + j)).block = y.block by unfold Addr.add; split <;> rfl]
  exact hB y hy
theorem Hs.below {w w' : World} {A : Option Addr} {xs : List Hr} (h : Hs w A xs) (hb : Below w.heap.size w w') : Hs w' A xs := by
  refine ⟨h.1, fun q x hq => ?_⟩
  obtain ⟨hk, y, hy, hc⟩ := h.2 q x hq
  exact ⟨hk, y, hy, fun j v hv => (hb.cell (World.block_lt_of_cell? _ _ (hc j v hv))).trans (hc j v hv)⟩
theorem Hs.grown {w w' : World} {A : Option Addr} {xs : List Hr} {row : Option Nat} (h : Hs w A xs) (hg : w.grownBy w' row) (hne : ∀ x, A = some x → some x.block ≠ row) : Hs w' A xs := by
  refine ⟨h.1, fun q x hq => ?_⟩
  obtain ⟨hk, y, hy, hc⟩ := h.2 q x hq
  refine ⟨hk, y, hy, fun j v hv => hg.cell (hc j v hv) ?_⟩
  rw [show (y.add (q * 8 + j)).block = y.block by unfold Addr.add; split <;> rfl]
  exact hne y hy
theorem Hs.ok {w : World} {A : Option Addr} {xs : List Hr} (h : Hs w A xs) {q : Nat} {x : Hr} (hq : xs[q]? = some x) : x.ok := (h.2 q x hq).1
theorem hs_some {w : World} {A : Option Addr} {xs : List Hr} (h : Hs w A xs) (hn : 0 < xs.length) : ∃ y, A = some y := by
  obtain ⟨_, y, hy, _⟩ := h.2 0 xs[0] (List.getElem?_eq_getElem hn)
  exact ⟨y, hy⟩
theorem Hs.at {w : World} {y : Addr} {xs : List Hr} (h : Hs w (some y) xs) {q : Nat} {x : Hr} (hq : xs[q]? = some x) : ∀ j v, (hl x)[j]? = some v → w.cell? ((y.add (q * 8)).add j) = some v := by
  obtain ⟨_, y', hy, hc⟩ := h.2 q x hq
  injection hy with hy
  subst hy
  intro j v hv
  rw [Addr.add_add]
  exact hc j v hv
/-- All cells of the row, one behind the other. -/
theorem Hs.cells {w : World} {y : Addr} {xs : List Hr} (h : Hs w (some y) xs) : ∀ j u, (hcs xs)[j]? = some u → w.cell? (y.add j) = some u := by
  intro j u hu
  have hj : j < xs.length * 8 := by have := (List.getElem?_eq_some_iff.1 hu).1; rwa [hcs_length] at this
  have e : j = j / 8 * 8 + j % 8 := by omega
  have hq : j / 8 < xs.length := by omega
  have hx := List.getElem?_eq_getElem hq
  obtain ⟨_, y', hy, hc⟩ := h.2 (j / 8) _ hx
  injection hy with hy
  subst hy
  rw [e, hcs_at xs (j / 8) _ (j % 8) hx (by omega)] at hu
  rw [e]
  exact hc _ _ hu
/-- A part of the row. -/
theorem Hs.take {w : World} {A : Option Addr} {xs : List Hr} (h : Hs w A xs) (n : Nat) : Hs w A (xs.take n) := by
  refine ⟨by have := h.1; rw [List.length_take]; omega, fun q x hq => h.2 q x ?_⟩
  rw [List.getElem?_take] at hq
  split at hq
  · exact hq
  · cases hq
theorem Hs.drop {w : World} {y : Addr} {xs : List Hr} (h : Hs w (some y) xs) (n : Nat) : Hs w (some (y.add (n * 8))) (xs.drop n) := by
  refine ⟨by have := h.1; rw [List.length_drop]; omega, fun q x hq => ?_⟩
  rw [List.getElem?_drop] at hq
  obtain ⟨hk, y', hy, hc⟩ := h.2 (n + q) x hq
  injection hy with hy
  subst hy
  refine ⟨hk, _, rfl, fun j v hv => ?_⟩
  rw [Addr.add_add, show n * 8 + (q * 8 + j) = (n + q) * 8 + j by omega]
  exact hc j v hv
/-- A row of the call's own reads so. -/
theorem own_hs {w : World} {base : Nat} {v : Value} {n : Nat} {xs : List Hr} (h : w.ownsRow base 33 8 v n (hcs xs)) (hok : ∀ x ∈ xs, x.ok) (hn : xs.length ≤ 140737488355328) : ∃ A cap, v = .slice A xs.length cap ∧ xs.length ≤ cap ∧ cap ≤ maxLen ∧ n = xs.length ∧ Hs w A xs ∧ (∀ y, A = some y → base ≤ y.block ∧ y.block < w.heap.size) := by
  have hl := h.1
  rw [hcs_length] at hl
  have hnx : n = xs.length := by omega
  subst hnx
  rcases h.2 with ⟨rfl, h0⟩ | ⟨g, cap, cur, rfl, hb, hg, hle, hm, hs, ht⟩
  · have : xs = [] := List.eq_nil_of_length_eq_zero h0
    subst this
    exact ⟨none, 0, rfl, by simp, by unfold maxLen; omega, rfl, Hs.nil _ _, fun y e => by cases e⟩
  · refine ⟨some ⟨g, 0, none⟩, cap, rfl, hle, hm, rfl, ⟨hn, fun q x hq => ⟨hok x (List.mem_of_getElem? hq), _, rfl, fun j v hv => ?_⟩⟩, fun y e => by injection e with e; subst e; exact ⟨hb, (Array.getElem?_eq_some_iff.1 hg).1⟩⟩
    have hj : j < 8 := by have := (List.getElem?_eq_some_iff.1 hv).1; rwa [hl_length] at this
    refine h.cells (g := g) rfl _ _ ?_
    rw [hcs_at xs q x j hq hj]
    exact hv

theorem size33 : (Try.prog.info? 33).map (·.size) = some 8 := by kernel_rfl
theorem load33 {w : World} {y : Addr} {x : Hr} (h : ∀ j v, (hl x)[j]? = some v → w.cell? (y.add j) = some v) : (Instr.loadAt 33 (.pointer (some y))).run Try.prog w = .ok (hv x) w := by
  have hl' : (loadCells y 8).run Try.prog w = .ok (hl x).toArray w := run_loadCells_list (P := Try.prog) w y (hl x) h
  obtain ⟨i, hi, hs⟩ := Option.map_eq_some_iff.1 size33
  have hg : (isAgg 33).run Try.prog w = .ok true w := by
    unfold isAgg
    simp only [Sem.run_bind, run_underlying Try.underlying33, Result.andThen_ok, Sem.run_pure]
  have hz : (Go.sizeOf 33).run Try.prog w = .ok 8 w := by
    rw [← hs]
    simp [Go.sizeOf, typeInfo, hi]
  simp only [Instr.loadAt, Instr.sureAddr, loadVar, Sem.run_bind, Sem.run_pure, Result.andThen_ok, hg, hz, hl', if_true]
  rfl
theorem at_load33 {ops : Array Oper} {rest : List Oper} {op : Oper} {a : Act} {w : World} {Q : Exit → Act → World → Prop} (x : Operand) (hgd : op.guard = none) (ho : op.op = .load 33 x) (y : Addr) (z : Hr) (hx : a.eval x = .pointer (some y)) (hr : ∀ j v, (hl z)[j]? = some v → w.cell? (y.add j) = some v)
    (h : wpList Try.prog ops Q rest (a.put op.dst (.agg #[.int .u32 z.a, .string z.T, .int .u8 z.m0, .int .u8 z.m1, .int .u8 z.m2, .int .u8 z.m3, .int .u8 z.m4, .int .u8 z.m5])) w) : wpList Try.prog ops Q (op :: rest) a w :=
  wpList_plain hgd fun _ hK => by
    unfold Oper.wp execOp
    simp only [ho, hx, Sem.run_bind, Sem.run_pure, Result.andThen_ok, load33 hr]
    exact hK _ _ h
/-- Whether two holders are one. -/
def eqh (x y : Hr) : Bool := x.a == y.a && (x.T.data.toList == y.T.data.toList && (x.m0 == y.m0 && (x.m1 == y.m1 && (x.m2 == y.m2 && (x.m3 == y.m3 && (x.m4 == y.m4 && x.m5 == y.m5))))))
theorem eqh_iff (x y : Hr) : eqh x y = true ↔ x = y := by
  obtain ⟨a, T, m0, m1, m2, m3, m4, m5⟩ := x
  obtain ⟨b, U, n0, n1, n2, n3, n4, n5⟩ := y
  have e : T.data.toList = U.data.toList ↔ T = U := by
    constructor
    · intro h
      obtain ⟨⟨l⟩⟩ := T
      obtain ⟨⟨k⟩⟩ := U
      simp at h
      rw [h]
    · rintro rfl; rfl
  simp only [eqh, Bool.and_eq_true, beq_iff_eq, e, Hr.mk.injEq]
theorem eqh_self (x : Hr) : eqh x x = true := (eqh_iff x x).2 rfl
def eq6 (a0 a1 a2 a3 a4 a5 b0 b1 b2 b3 b4 b5 : Int) : Bool := decide (a0 = b0 ∧ a1 = b1 ∧ a2 = b2 ∧ a3 = b3 ∧ a4 = b4 ∧ a5 = b5)
theorem run_each {P : Program} {W : World} (f : Nat → Bool) (body : Nat → Option Bool × Unit → Sem (ForInStep (Option Bool × Unit))) :
    ∀ ks : List Nat, (∀ k ∈ ks, (body k (none, ())).run P W = .ok (if f k = true then ForInStep.yield (none, ()) else ForInStep.done (some false, ())) W) →
      (forIn ks (none, ()) body).run P W = .ok (if ks.all f = true then (none, ()) else (some false, ())) W
  | [], _ => by simp [Sem.run_pure]
  | k :: ks, h => by
    have ih := run_each f body ks (fun j hj => h j (List.mem_cons_of_mem _ hj))
    rw [List.forIn_cons, Sem.run_bind, h k (List.mem_cons_self ..), Result.andThen_ok]
    cases hk : f k
    · simp [hk, Sem.run_pure]
    · simp only [if_true]
      rw [ih]
      simp [hk]

theorem run_eq6 (a0 a1 a2 a3 a4 a5 b0 b1 b2 b3 b4 b5 : Int) (d : Nat) (W : World) :
    (Op.equalIn (d + 2) 31 (.agg #[.int .u8 a0, .int .u8 a1, .int .u8 a2, .int .u8 a3, .int .u8 a4, .int .u8 a5]) (.agg #[.int .u8 b0, .int .u8 b1, .int .u8 b2, .int .u8 b3, .int .u8 b4, .int .u8 b5])).run Try.prog W = .ok (eq6 a0 a1 a2 a3 a4 a5 b0 b1 b2 b3 b4 b5) W := by
  show (Op.equalIn (d + 1 + 1) 31 _ _).run Try.prog W = _
  have he : ∀ (x y : Int), (Op.equalIn (d + 1) 5 (.int .u8 x) (.int .u8 y)).run Try.prog W = .ok (x == y) W := fun (x y : Int) => run_equalIn_int (P := Try.prog) W d 5 .u8 .u8 x y Try.underlying5
  have hs : (Go.sizeOf 5).run Try.prog W = .ok 1 W := by simp [go_sem]
  have e1 : ∀ (xs : Array Value) (k : Nat) (x : Int), xs[k]? = some (.int .u8 x) → (part 5 xs (k * 1)).run Try.prog W = .ok (.int .u8 x) W := by
    intro xs k x h
    simp [part, go_sem, h]
  unfold Op.equalIn
  simp only [Sem.run_bind, run_underlying Try.underlying31, Result.andThen_ok, hs]
  have hl : List.range' 0 6 1 = [0, 1, 2, 3, 4, 5] := rfl
  rw [Std.Legacy.Range.forIn_eq_forIn_range']
  simp only [Std.Legacy.Range.size]
  simp only [Nat.sub_zero, Nat.add_one_sub_one, Nat.reduceAdd, Nat.reduceDiv, hl]
  have ae0 := e1 #[.int .u8 a0, .int .u8 a1, .int .u8 a2, .int .u8 a3, .int .u8 a4, .int .u8 a5] 0 a0 rfl
  have ae1 := e1 #[.int .u8 a0, .int .u8 a1, .int .u8 a2, .int .u8 a3, .int .u8 a4, .int .u8 a5] 1 a1 rfl
  have ae2 := e1 #[.int .u8 a0, .int .u8 a1, .int .u8 a2, .int .u8 a3, .int .u8 a4, .int .u8 a5] 2 a2 rfl
  have ae3 := e1 #[.int .u8 a0, .int .u8 a1, .int .u8 a2, .int .u8 a3, .int .u8 a4, .int .u8 a5] 3 a3 rfl
  have ae4 := e1 #[.int .u8 a0, .int .u8 a1, .int .u8 a2, .int .u8 a3, .int .u8 a4, .int .u8 a5] 4 a4 rfl
  have ae5 := e1 #[.int .u8 a0, .int .u8 a1, .int .u8 a2, .int .u8 a3, .int .u8 a4, .int .u8 a5] 5 a5 rfl
  have be0 := e1 #[.int .u8 b0, .int .u8 b1, .int .u8 b2, .int .u8 b3, .int .u8 b4, .int .u8 b5] 0 b0 rfl
  have be1 := e1 #[.int .u8 b0, .int .u8 b1, .int .u8 b2, .int .u8 b3, .int .u8 b4, .int .u8 b5] 1 b1 rfl
  have be2 := e1 #[.int .u8 b0, .int .u8 b1, .int .u8 b2, .int .u8 b3, .int .u8 b4, .int .u8 b5] 2 b2 rfl
  have be3 := e1 #[.int .u8 b0, .int .u8 b1, .int .u8 b2, .int .u8 b3, .int .u8 b4, .int .u8 b5] 3 b3 rfl
  have be4 := e1 #[.int .u8 b0, .int .u8 b1, .int .u8 b2, .int .u8 b3, .int .u8 b4, .int .u8 b5] 4 b4 rfl
  have be5 := e1 #[.int .u8 b0, .int .u8 b1, .int .u8 b2, .int .u8 b3, .int .u8 b4, .int .u8 b5] 5 b5 rfl
  rw [run_each (fun k => [a0, a1, a2, a3, a4, a5].getD k 0 == [b0, b1, b2, b3, b4, b5].getD k 0) _ [0, 1, 2, 3, 4, 5] (by
    intro k hk
    simp only [List.mem_cons, List.not_mem_nil, or_false] at hk
    rcases hk with rfl | rfl | rfl | rfl | rfl | rfl
    · simp only [Sem.run_bind, ae0, be0, he, Result.andThen_ok, Sem.run_ite, Sem.run_pure, List.getD_cons_zero]
      cases (a0 == b0) <;> rfl
    · simp only [Sem.run_bind, ae1, be1, he, Result.andThen_ok, Sem.run_ite, Sem.run_pure, List.getD_cons_zero, List.getD_cons_succ]
      cases (a1 == b1) <;> rfl
    · simp only [Sem.run_bind, ae2, be2, he, Result.andThen_ok, Sem.run_ite, Sem.run_pure, List.getD_cons_zero, List.getD_cons_succ]
      cases (a2 == b2) <;> rfl
    · simp only [Sem.run_bind, ae3, be3, he, Result.andThen_ok, Sem.run_ite, Sem.run_pure, List.getD_cons_zero, List.getD_cons_succ]
      cases (a3 == b3) <;> rfl
    · simp only [Sem.run_bind, ae4, be4, he, Result.andThen_ok, Sem.run_ite, Sem.run_pure, List.getD_cons_zero, List.getD_cons_succ]
      cases (a4 == b4) <;> rfl
    · simp only [Sem.run_bind, ae5, be5, he, Result.andThen_ok, Sem.run_ite, Sem.run_pure, List.getD_cons_zero, List.getD_cons_succ]
      cases (a5 == b5) <;> rfl), Result.andThen_ok]
  unfold eq6
  simp only [List.all_cons, List.all_nil, List.getD_cons_zero, List.getD_cons_succ, Bool.and_true]
  by_cases h : a0 = b0 ∧ a1 = b1 ∧ a2 = b2 ∧ a3 = b3 ∧ a4 = b4 ∧ a5 = b5
  · obtain ⟨rfl, rfl, rfl, rfl, rfl, rfl⟩ := h
    simp [Sem.run_pure]
  · rw [decide_eq_false h, if_neg (by simpa using h)]
    simp [Sem.run_pure]

theorem run_eq33 (x y : Hr) (W : World) : (Op.equalIn 10000 33 (hv x) (hv y)).run Try.prog W = .ok (eqh x y) W := by
  have h6 := run_eq6 x.m0 x.m1 x.m2 x.m3 x.m4 x.m5 y.m0 y.m1 y.m2 y.m3 y.m4 y.m5 9997 W
  unfold hv
  rw [show (10000 : Nat) = 9999 + 1 from rfl, run_equalIn_struct W 9999 33 _ _ (by kernel_rfl) (by kernel_rfl)]
  simp [go_sem, part, h6]
  unfold eqh
  by_cases h1 : x.a = y.a
  · by_cases h2 : x.T.toList = y.T.toList
    · rw [if_pos h1, if_pos h2]
      have h2' : x.T.data.toList = y.T.data.toList := by simpa [ByteArray.toList_eq] using h2
      by_cases h3 : x.m0 = y.m0 ∧ x.m1 = y.m1 ∧ x.m2 = y.m2 ∧ x.m3 = y.m3 ∧ x.m4 = y.m4 ∧ x.m5 = y.m5
      · obtain ⟨g0, g1, g2, g3, g4, g5⟩ := h3
        simp [eq6, h1, h2', g0, g1, g2, g3, g4, g5]
      · have h3' : eq6 x.m0 x.m1 x.m2 x.m3 x.m4 x.m5 y.m0 y.m1 y.m2 y.m3 y.m4 y.m5 = false := decide_eq_false h3
        rw [h3']
        simp only [Bool.false_eq_true, if_true, if_false, Result.andThen_ok]
        congr 1
        symm
        rw [Bool.eq_false_iff]
        intro hc
        simp at hc
        exact h3 ⟨hc.2.2.1, hc.2.2.2.1, hc.2.2.2.2.1, hc.2.2.2.2.2.1, hc.2.2.2.2.2.2.1, hc.2.2.2.2.2.2.2⟩
    · rw [if_pos h1, if_neg h2]
      have h2' : ¬ x.T.data.toList = y.T.data.toList := by simpa [ByteArray.toList_eq] using h2
      have : (x.T.data.toList == y.T.data.toList) = false := by simpa using h2'
      rw [this]
      simp
  · rw [if_neg h1]
    simp [h1]
theorem run_eql33 (x y : Hr) (W : World) : (binOp .eql 33 (hv x) (hv y)).run Try.prog W = .ok (.bool (eqh x y)) W := by
  have := run_eql_struct (P := Try.prog) W 33 (hl x).toArray (hl y).toArray
  rw [show Value.agg (hl x).toArray = hv x from rfl, show Value.agg (hl y).toArray = hv y from rfl, run_eq33] at this
  exact this
theorem run_neq33 (x y : Hr) (W : World) : (binOp .neq 33 (hv x) (hv y)).run Try.prog W = .ok (.bool (!eqh x y)) W := by
  have := run_neq_struct (P := Try.prog) W 33 (hl x).toArray (hl y).toArray
  rw [show Value.agg (hl x).toArray = hv x from rfl, show Value.agg (hl y).toArray = hv y from rfl, run_eq33] at this
  exact this
theorem guard33 (op : BinOp) (p q : Operand) (x y : Hr) (W : World) : (eqGuard op 33 p q (hv x) (hv y)).run Try.prog W = .ok () W := run_eqGuard_agg W op 33 p q _ _ (by kernel_rfl)
section
variable {ops : Array Oper} {rest : List Oper} {o : Oper} {a : Act} {w : World} {Q : Exit → Act → World → Prop}
theorem at_neq33 (x y : Operand) (p q : Hr) (hgd : o.guard = none) (ho : o.op = .binOp .neq 33 x y 33) (hx : a.eval x = hv p) (hy : a.eval y = hv q)
    (h : wpList Try.prog ops Q rest (a.put o.dst (.bool (!eqh p q))) w) : wpList Try.prog ops Q (o :: rest) a w :=
  wpList_plain hgd fun _ hK => by
    unfold Oper.wp execOp
    simp only [ho, hx, hy, Sem.run_bind, Sem.run_pure, Result.andThen_ok, guard33, run_neq33]
    exact hK _ _ h
end
section
variable {ops : Array Oper} {rest : List Oper} {o : Oper} {a : Act} {C : World → Prop} {Q : Act → Prop}
theorem quiet_load33 (x : Operand) (y : Addr) (p : Hr) (hr : ∀ W, C W → ∀ j v, (hl p)[j]? = some v → W.cell? (y.add j) = some v) (hw : Region.wanted o (yielded ops a.tmps) = true) (ho : o.op = .load 33 x) (hx : a.eval x = .pointer (some y)) (h : wpQuiet Try.prog ops C Q rest (a.put o.dst (hv p))) : wpQuiet Try.prog ops C Q (o :: rest) a :=
  BigFrame.wpQuiet_want hw fun K hK => ⟨hv p, fun W hC => by
    unfold Oper.quietAt execOp
    simp only [ho, hx, Sem.run_bind, Sem.run_pure, Result.andThen_ok, load33 (hr W hC)]
    exact ⟨rfl, rfl⟩, hK _ h⟩
theorem quiet_neq33 (x y : Operand) (p q : Hr) (hw : Region.wanted o (yielded ops a.tmps) = true) (ho : o.op = .binOp .neq 33 x y 33) (hx : a.eval x = hv p) (hy : a.eval y = hv q) (h : wpQuiet Try.prog ops C Q rest (a.put o.dst (.bool (!eqh p q)))) : wpQuiet Try.prog ops C Q (o :: rest) a :=
  BigFrame.wpQuiet_want hw fun K hK => ⟨.bool (!eqh p q), fun W hC => by
    unfold Oper.quietAt execOp
    simp only [ho, hx, hy, Sem.run_bind, Sem.run_pure, Result.andThen_ok, guard33, run_neq33]
    exact ⟨rfl, rfl⟩, hK _ h⟩
end
end Go.Proofs.Ytafmcnnbeoffdaa
