/-
  Part of the proofs of layer 18: several texts in one file. No condition of its own.
-/
import Derived.Test.YtilneflfeegnfaaGreatProg
import Derived.WalkKit
import Derived.Lib.Strings
import Derived.WalkLawsBesides
import Derived.BigQuiet
import Derived.Deep.QuietTactic
import Derived.Deep.MidRow
import Derived.Deep.CutRange
import Derived.Deep.LoopGhost
import Derived.Deep.Slices
import Derived.Deep.OwnRows
import Derived.Deep.AppendLies
import Derived.Laws.OwnMore
import Derived.Laws.AppendOwn
import Derived.Laws.ResultCell
import Derived.Laws.BitsAllLaws
import Derived.Maps.AppendAt
import Derived.RegionTactic
import Derived.OwnWalk
import Derived.Lib.Hide
import Derived.Lib.MinMax
import Derived.Lib.QuietBelow
import Derived.StillTailTactics
import Derived.Test.YtilneflfeegnfaaGreatMG
import Derived.Lib.SliceRun
/-
  A sighting, an address with its sightings, and rows of them, as plain data and in memory: what a load and a comparison of one do. No condition.
-/
set_option linter.unusedSimpArgs false
set_option linter.unusedVariables false
namespace Go.Proofs.YtilneflfeegnfaaGreat.Sn
open Go.RowKit

section
variable {α : Type} {E : El α}
end

/-- A sighting. -/
structure Sg where
  f : Int
  m0 : Int
  m1 : Int
  m2 : Int
  m3 : Int
  m4 : Int
  m5 : Int
  t : Int
def zs : Sg := ⟨0, 0, 0, 0, 0, 0, 0, 0⟩
def sl (x : Sg) : List Value := [.int .i64 x.f, .int .u8 x.m0, .int .u8 x.m1, .int .u8 x.m2, .int .u8 x.m3, .int .u8 x.m4, .int .u8 x.m5, .int .i64 x.t]
def sv (x : Sg) : Value := .agg #[.int .i64 x.f, .int .u8 x.m0, .int .u8 x.m1, .int .u8 x.m2, .int .u8 x.m3, .int .u8 x.m4, .int .u8 x.m5, .int .i64 x.t]
def Sx (x : Sg) : Obj := .cells #[.int .i64 x.f, .int .u8 x.m0, .int .u8 x.m1, .int .u8 x.m2, .int .u8 x.m3, .int .u8 x.m4, .int .u8 x.m5, .int .i64 x.t] 49
def eS : El Sg := ⟨sl, 8, by decide, fun _ => rfl, by
  intro x u hu
  simp [sl] at hu
  rcases hu with rfl | rfl | rfl | rfl | rfl | rfl | rfl | rfl <;> rfl⟩
/-- An address and its sightings; where they lie. -/
structure Kn where
  a : Int
  P : Option Addr
  c : Nat
  ss : List Sg
def kl (x : Kn) : List Value := [.int .u32 x.a, .slice x.P x.ss.length x.c]
def eK : El Kn := ⟨kl, 2, by decide, fun _ => rfl, by
  intro x u hu
  simp [kl] at hu
  rcases hu with rfl | rfl <;> rfl⟩
/-- An address and its sightings, wherever they lie. -/
structure Kp where
  a : Int
  ss : List Sg
def Kn.p (x : Kn) : Kp := ⟨x.a, x.ss⟩
/-- What lies in memory. -/
structure Kn.In (w : World) (x : Kn) : Prop where
  a0 : 0 ≤ x.a
  a1 : x.a < 4294967296
  lies : Rw eS w x.P x.ss
  le : x.ss.length ≤ x.c
  max : x.c ≤ maxLen
theorem Kn.In.below {w w' : World} {x : Kn} (h : x.In w) (hb : Below w.heap.size w w') : x.In w' := ⟨h.a0, h.a1, h.lies.below hb, h.le, h.max⟩
/-- A row of addresses with their sightings, in memory; it, wherever all lies. -/
def Ke (w : World) (A : Option Addr) (xs : List Kn) : Prop := Rw eK w A xs ∧ ∀ x ∈ xs, x.In w
def Ks (w : World) (A : Option Addr) (ps : List Kp) : Prop := ∃ xs, xs.map Kn.p = ps ∧ Ke w A xs
theorem Ke.below {w w' : World} {A : Option Addr} {xs : List Kn} (h : Ke w A xs) (hb : Below w.heap.size w w') : Ke w' A xs := ⟨h.1.below hb, fun x hx => (h.2 x hx).below hb⟩
theorem Ks.below {w w' : World} {A : Option Addr} {ps : List Kp} (h : Ks w A ps) (hb : Below w.heap.size w w') : Ks w' A ps := by
  obtain ⟨xs, e, h⟩ := h
  exact ⟨xs, e, h.below hb⟩
theorem Ks.nil (w : World) (A : Option Addr) : Ks w A [] := ⟨[], rfl, Rw.nil _ _, fun x hx => by cases hx⟩
theorem Ke.drewN {w : World} {A : Option Addr} {xs : List Kn} (h : Ke w A xs) (n : Nat) : Ke (w.drewN n) A xs := h.below (bdrewN (Below.refl _ _) n)

theorem size35 : (Tryz.prog.info? 49).map (·.size) = some 8 := by kernel_rfl
theorem load35 {w : World} {y : Addr} {x : Sg} (h : ∀ j v, (sl x)[j]? = some v → w.cell? (y.add j) = some v) : (Instr.loadAt 49 (.pointer (some y))).run Tryz.prog w = .ok (sv x) w := by
  have hl' : (loadCells y 8).run Tryz.prog w = .ok (sl x).toArray w := run_loadCells_list (P := Tryz.prog) w y (sl x) h
  obtain ⟨i, hi, hs⟩ := Option.map_eq_some_iff.1 size35
  have hg : (isAgg 49).run Tryz.prog w = .ok true w := by
    unfold isAgg
    simp only [Sem.run_bind, run_underlying Tryz.underlying49, Result.andThen_ok, Sem.run_pure]
  have hz : (Go.sizeOf 49).run Tryz.prog w = .ok 8 w := by
    rw [← hs]
    simp [Go.sizeOf, typeInfo, hi]
  simp only [Instr.loadAt, Instr.sureAddr, loadVar, Sem.run_bind, Sem.run_pure, Result.andThen_ok, hg, hz, hl', if_true]
  rfl
theorem size53 : (Tryz.prog.info? 66).map (·.size) = some 2 := by kernel_rfl
def kv (x : Kn) : Value := .agg #[.int .u32 x.a, .slice x.P x.ss.length x.c]
theorem load53 {w : World} {y : Addr} {x : Kn} (h : ∀ j v, (kl x)[j]? = some v → w.cell? (y.add j) = some v) : (Instr.loadAt 66 (.pointer (some y))).run Tryz.prog w = .ok (kv x) w := by
  have hl' : (loadCells y 2).run Tryz.prog w = .ok (kl x).toArray w := run_loadCells_list (P := Tryz.prog) w y (kl x) h
  obtain ⟨i, hi, hs⟩ := Option.map_eq_some_iff.1 size53
  have hg : (isAgg 66).run Tryz.prog w = .ok true w := by
    unfold isAgg
    simp only [Sem.run_bind, run_underlying Tryz.underlying66, Result.andThen_ok, Sem.run_pure]
  have hz : (Go.sizeOf 66).run Tryz.prog w = .ok 2 w := by
    rw [← hs]
    simp [Go.sizeOf, typeInfo, hi]
  simp only [Instr.loadAt, Instr.sureAddr, loadVar, Sem.run_bind, Sem.run_pure, Result.andThen_ok, hg, hz, hl', if_true]
  rfl
theorem at_load35 {ops : Array Oper} {rest : List Oper} {op : Oper} {a : Act} {w : World} {Q : Exit → Act → World → Prop} (x : Operand) (hgd : op.guard = none) (ho : op.op = .load 49 x) (y : Addr) (z : Sg) (hx : a.eval x = .pointer (some y)) (hr : ∀ j v, (sl z)[j]? = some v → w.cell? (y.add j) = some v)
    (h : wpList Tryz.prog ops Q rest (a.put op.dst (.agg #[.int .i64 z.f, .int .u8 z.m0, .int .u8 z.m1, .int .u8 z.m2, .int .u8 z.m3, .int .u8 z.m4, .int .u8 z.m5, .int .i64 z.t])) w) : wpList Tryz.prog ops Q (op :: rest) a w :=
  wpList_plain hgd fun _ hK => by
    unfold Oper.wp execOp
    simp only [ho, hx, Sem.run_bind, Sem.run_pure, Result.andThen_ok, load35 hr]
    exact hK _ _ h
theorem at_load53 {ops : Array Oper} {rest : List Oper} {op : Oper} {a : Act} {w : World} {Q : Exit → Act → World → Prop} (x : Operand) (hgd : op.guard = none) (ho : op.op = .load 66 x) (y : Addr) (z : Kn) (hx : a.eval x = .pointer (some y)) (hr : ∀ j v, (kl z)[j]? = some v → w.cell? (y.add j) = some v)
    (h : wpList Tryz.prog ops Q rest (a.put op.dst (.agg #[.int .u32 z.a, .slice z.P z.ss.length z.c])) w) : wpList Tryz.prog ops Q (op :: rest) a w :=
  wpList_plain hgd fun _ hK => by
    unfold Oper.wp execOp
    simp only [ho, hx, Sem.run_bind, Sem.run_pure, Result.andThen_ok, load53 hr]
    exact hK _ _ h
/-- Whether two sightings are one. -/
def eqs (x y : Sg) : Bool := x.f == y.f && ((x.m0 == y.m0 && (x.m1 == y.m1 && (x.m2 == y.m2 && (x.m3 == y.m3 && (x.m4 == y.m4 && x.m5 == y.m5))))) && x.t == y.t)
theorem eqs_iff (x y : Sg) : eqs x y = true ↔ x = y := by
  obtain ⟨a, m0, m1, m2, m3, m4, m5, t⟩ := x
  obtain ⟨b, n0, n1, n2, n3, n4, n5, u⟩ := y
  simp only [eqs, Bool.and_eq_true, beq_iff_eq, Sg.mk.injEq]
  constructor
  · rintro ⟨h1, ⟨h2, h3, h4, h5, h6, h7⟩, h8⟩; exact ⟨h1, h2, h3, h4, h5, h6, h7, h8⟩
  · rintro ⟨h1, h2, h3, h4, h5, h6, h7, h8⟩; exact ⟨h1, ⟨h2, h3, h4, h5, h6, h7⟩, h8⟩
theorem eqs_self (x : Sg) : eqs x x = true := (eqs_iff x x).2 rfl
theorem run_eq35 (x y : Sg) (W : World) : (Op.equalIn 10000 49 (sv x) (sv y)).run Tryz.prog W = .ok (eqs x y) W := by
  have h6 := run_eq6 x.m0 x.m1 x.m2 x.m3 x.m4 x.m5 y.m0 y.m1 y.m2 y.m3 y.m4 y.m5 9997 W
  unfold sv
  rw [show (10000 : Nat) = 9999 + 1 from rfl, run_equalIn_struct W 9999 49 _ _ (by kernel_rfl) (by kernel_rfl)]
  simp [go_sem, part, h6]
  unfold eqs
  by_cases h1 : x.f = y.f
  · rw [if_pos h1]
    by_cases h3 : x.m0 = y.m0 ∧ x.m1 = y.m1 ∧ x.m2 = y.m2 ∧ x.m3 = y.m3 ∧ x.m4 = y.m4 ∧ x.m5 = y.m5
    · obtain ⟨g0, g1, g2, g3, g4, g5⟩ := h3
      by_cases h4 : x.t = y.t <;> simp [eq6, h1, g0, g1, g2, g3, g4, g5, h4]
    · have h3' : eq6 x.m0 x.m1 x.m2 x.m3 x.m4 x.m5 y.m0 y.m1 y.m2 y.m3 y.m4 y.m5 = false := decide_eq_false h3
      rw [h3']
      simp only [Bool.false_eq_true, if_true, if_false, Result.andThen_ok]
      refine congrArg (fun z => Result.ok z W) ?_
      symm
      rw [Bool.eq_false_iff]
      intro hc
      simp at hc
      exact h3 ⟨hc.2.1.1, hc.2.1.2.1, hc.2.1.2.2.1, hc.2.1.2.2.2.1, hc.2.1.2.2.2.2.1, hc.2.1.2.2.2.2.2⟩
  · rw [if_neg h1]
    simp [h1]
theorem run_eql35 (x y : Sg) (W : World) : (binOp .eql 49 (sv x) (sv y)).run Tryz.prog W = .ok (.bool (eqs x y)) W := by
  have := run_eql_struct (P := Tryz.prog) W 49 (sl x).toArray (sl y).toArray
  rw [show Value.agg (sl x).toArray = sv x from rfl, show Value.agg (sl y).toArray = sv y from rfl, run_eq35] at this
  exact this
theorem run_neq35 (x y : Sg) (W : World) : (binOp .neq 49 (sv x) (sv y)).run Tryz.prog W = .ok (.bool (!eqs x y)) W := by
  have := run_neq_struct (P := Tryz.prog) W 49 (sl x).toArray (sl y).toArray
  rw [show Value.agg (sl x).toArray = sv x from rfl, show Value.agg (sl y).toArray = sv y from rfl, run_eq35] at this
  exact this
theorem guard35 (op : BinOp) (p q : Operand) (x y : Sg) (W : World) : (eqGuard op 49 p q (sv x) (sv y)).run Tryz.prog W = .ok () W := run_eqGuard_agg W op 49 p q _ _ (by kernel_rfl)
section
variable {ops : Array Oper} {rest : List Oper} {o : Oper} {a : Act} {C : World → Prop} {Q : Act → Prop}
theorem quiet_load35 (x : Operand) (y : Addr) (p : Sg) (hr : ∀ W, C W → ∀ j v, (sl p)[j]? = some v → W.cell? (y.add j) = some v) (hw : Region.wanted o (yielded ops a.tmps) = true) (ho : o.op = .load 49 x) (hx : a.eval x = .pointer (some y)) (h : wpQuiet Tryz.prog ops C Q rest (a.put o.dst (sv p))) : wpQuiet Tryz.prog ops C Q (o :: rest) a :=
  BigFrame.wpQuiet_want hw fun K hK => ⟨sv p, fun W hC => by
    unfold Oper.quietAt execOp
    simp only [ho, hx, Sem.run_bind, Sem.run_pure, Result.andThen_ok, load35 (hr W hC)]
    exact ⟨rfl, rfl⟩, hK _ h⟩
theorem quiet_neq35 (x y : Operand) (p q : Sg) (hw : Region.wanted o (yielded ops a.tmps) = true) (ho : o.op = .binOp .neq 49 x y 49) (hx : a.eval x = sv p) (hy : a.eval y = sv q) (h : wpQuiet Tryz.prog ops C Q rest (a.put o.dst (.bool (!eqs p q)))) : wpQuiet Tryz.prog ops C Q (o :: rest) a :=
  BigFrame.wpQuiet_want hw fun K hK => ⟨.bool (!eqs p q), fun W hC => by
    unfold Oper.quietAt execOp
    simp only [ho, hx, hy, Sem.run_bind, Sem.run_pure, Result.andThen_ok, guard35, run_neq35]
    exact ⟨rfl, rfl⟩, hK _ h⟩
theorem quiet_eql35 (x y : Operand) (p q : Sg) (hw : Region.wanted o (yielded ops a.tmps) = true) (ho : o.op = .binOp .eql 49 x y 49) (hx : a.eval x = sv p) (hy : a.eval y = sv q) (h : wpQuiet Tryz.prog ops C Q rest (a.put o.dst (.bool (eqs p q)))) : wpQuiet Tryz.prog ops C Q (o :: rest) a :=
  BigFrame.wpQuiet_want hw fun K hK => ⟨.bool (eqs p q), fun W hC => by
    unfold Oper.quietAt execOp
    simp only [ho, hx, hy, Sem.run_bind, Sem.run_pure, Result.andThen_ok, guard35, run_eql35]
    exact ⟨rfl, rfl⟩, hK _ h⟩
end
end Go.Proofs.YtilneflfeegnfaaGreat.Sn

/-
  The contracts of seen.isSource, seen.place and seen.Last: where an address stands in a row, and when it was last seen. Conditions: the row lies in memory.
-/
set_option linter.unusedSimpArgs false
set_option linter.unusedVariables false
namespace Go.Proofs.YtilneflfeegnfaaGreat.Sn
open Go.RowKit

theorem Ks.len {w : World} {A : Option Addr} {ps : List Kp} (h : Ks w A ps) : ps.length ≤ 140737488355328 := by
  obtain ⟨xs, rfl, h⟩ := h
  rw [List.length_map]
  exact h.1.1
/-- One of the row. -/
theorem Ks.kn {w : World} {A : Option Addr} {ps : List Kp} (h : Ks w A ps) {q : Nat} {p : Kp} (hq : ps[q]? = some p) :
    ∃ (y : Addr) (P : Option Addr) (c : Nat), A = some y ∧ (⟨p.a, P, c, p.ss⟩ : Kn).In w ∧ ∀ j v, (kl ⟨p.a, P, c, p.ss⟩)[j]? = some v → w.cell? ((y.add (q * 2)).add j) = some v := by
  obtain ⟨xs, rfl, h⟩ := h
  rw [List.getElem?_map, Option.map_eq_some_iff] at hq
  obtain ⟨x, hx, rfl⟩ := hq
  obtain ⟨y, rfl⟩ := rw_some h.1 (by have := (List.getElem?_eq_some_iff.1 hx).1; omega)
  exact ⟨y, x.P, x.c, rfl, h.2 x (List.mem_of_getElem? hx), h.1.at hx⟩
theorem Ks.some {w : World} {A : Option Addr} {ps : List Kp} (h : Ks w A ps) (hn : 0 < ps.length) : ∃ y, A = .some y := by
  obtain ⟨y, _, _, e, _⟩ := h.kn (List.getElem?_eq_getElem hn)
  exact ⟨y, e⟩
theorem Ks.drewN {w : World} {A : Option Addr} {ps : List Kp} (h : Ks w A ps) (n : Nat) : Ks (w.drewN n) A ps := h.below (bdrewN (Below.refl _ _) n)

/-- Whether a source is one. -/
def isrc (f : Int) : Bool := decide (0 ≤ f ∧ f < 4)
set_option maxRecDepth 100000 in
set_option maxHeartbeats 2000000 in
theorem src_any (f : Int) (w : World) : Calls Tryz.prog 82 #[.int .i64 f] w fun e w' => e = .returned (.bool (isrc f)) ∧ w' = w := by
  by_cases h0 : 0 ≤ f
  · by_cases h1 : f < 4
    · have HI := Lib.hid (show isrc f = true from decide_eq_true ⟨h0, h1⟩)
      go_enter Tryz.func82, Tryz.ntmps82
      go_wp2_with fail
      go_ret
      exact ⟨ret_bool HI.out.symm, rfl⟩
    · have HI := Lib.hid (show isrc f = false from decide_eq_false fun h => h1 h.2)
      go_enter Tryz.func82, Tryz.ntmps82
      go_wp2_with fail
      go_ret
      exact ⟨ret_bool HI.out.symm, rfl⟩
  · have HI := Lib.hid (show isrc f = false from decide_eq_false fun h => h0 h.1)
    go_enter Tryz.func82, Tryz.ntmps82
    go_wp2_with fail
    go_ret
    exact ⟨ret_bool HI.out.symm, rfl⟩

/-- How many of a row stand ahead of an address. -/
def lo : List Kp → Int → Nat
  | [], _ => 0
  | x :: r, a => if x.a < a then lo r a + 1 else 0
theorem lo_le (a : Int) : ∀ xs, lo xs a ≤ xs.length
  | [] => Nat.le_refl _
  | x :: r => by
    unfold lo
    have := lo_le a r
    split <;> simp
    omega
theorem lo_lt (a : Int) : ∀ (xs : List Kp) (k : Nat) (x : Kp), k < lo xs a → xs[k]? = some x → x.a < a
  | [], k, x, h, _ => by simp [lo] at h
  | y :: r, k, x, h, hx => by
    unfold lo at h
    split at h
    · rename_i hy
      cases k with
      | zero => simp at hx; subst hx; exact hy
      | succ k => exact lo_lt a r k x (by omega) (by simpa using hx)
    · omega
theorem lo_ge (a : Int) : ∀ (xs : List Kp) (x : Kp), xs[lo xs a]? = some x → ¬ x.a < a
  | [], x, hx => by simp at hx
  | y :: r, x, hx => by
    unfold lo at hx
    split at hx
    · exact lo_ge a r x (by simpa using hx)
    · rename_i hy
      simp at hx
      subst hx
      exact hy
/-- Whether the address is there. -/
def isAt (xs : List Kp) (a : Int) : Bool := match xs[lo xs a]? with
  | some x => decide (x.a = a)
  | none => false
theorem isAt_some {xs : List Kp} {a : Int} (h : isAt xs a = true) : ∃ x, xs[lo xs a]? = some x ∧ x.a = a ∧ lo xs a < xs.length := by
  unfold isAt at h
  split at h
  · rename_i x hx
    exact ⟨x, hx, by simpa using h, (List.getElem?_eq_some_iff.1 hx).1⟩
  · cases h
/-- Its sightings. -/
def sg (xs : List Kp) (a : Int) : List Sg := if isAt xs a = true then (match xs[lo xs a]? with
  | some x => x.ss
  | none => []) else []
theorem sg_no {xs : List Kp} {a : Int} (h : isAt xs a = false) : sg xs a = [] := by simp [sg, h]
theorem sg_at {xs : List Kp} {a : Int} (h : isAt xs a = true) {x : Kp} (hx : xs[lo xs a]? = some x) : sg xs a = x.ss := by simp [sg, h, hx]
/-- When it was seen last. -/
def tk (ss : List Sg) : Int := (ss[ss.length - 1]?.getD zs).t
def any (ss : List Sg) : Bool := decide (0 < ss.length)

set_option maxRecDepth 100000 in
set_option maxHeartbeats 2000000 in
theorem place_any (a : Int) (A : Option Addr) (xs : List Kp) (cap : Nat) (w : World) (h : Ks w A xs) (ha0 : 0 ≤ a) (ha1 : a < 4294967296) :
    Calls Tryz.prog 47 #[.slice A xs.length cap, .int .u32 a] w fun e w' => e = .returned (.tuple #[.int .i64 (lo xs a), .bool (isAt xs a)]) ∧ ∃ n, w' = w.drewN n := by
  have hle := lo_le a xs
  have hln := h.len
  have R := Lib.hid h
  clear h
  have HI := Lib.hid (show isAt xs a = _ by unfold isAt; rfl)
  obtain ⟨L, hL⟩ : ∃ L, xs.length = L := ⟨_, rfl⟩
  have HL := Lib.hid hL
  rw [hL] at hle hln ⊢
  clear hL
  obtain ⟨P, hP⟩ : ∃ P, lo xs a = P := ⟨_, rfl⟩
  have HP := Lib.hid hP
  rw [hP] at hle ⊢
  clear hP
  go_enter Tryz.func47, Tryz.ntmps47
  go_wp2_with fail
  go_loop [6] (fun i => ∃ k : Nat, i = .int .i64 k ∧ k ≤ P) (fun i => P - (intOf i).toNat)
  case atStart => exact ⟨0, rfl, by omega⟩
  case round =>
    obtain ⟨k, rfl, hk⟩ := hrel
    by_cases hkL : k < L
    · obtain ⟨x, hx⟩ : ∃ x, xs[k]? = some x := ⟨_, List.getElem?_eq_getElem (by rw [HL.out]; exact hkL)⟩
      obtain ⟨y, P1, c1, rfl, hin, hc⟩ := R.out.kn hx
      have c0 : w.cell? (y.add (k * 2)) = some (.int .u32 x.a) := by
        have := hc 0 _ rfl
        rwa [Addr.add_add] at this
      have X0 : 0 ≤ x.a := hin.a0
      have X1 : x.a < 4294967296 := hin.a1
      by_cases hlt : k < P
      · have hxa : x.a < a := lo_lt a xs k x (by rw [HP.out]; exact hlt) hx
        clear hx hin hc
        go_wp2_with fail
        go_round
        case rel => exact ⟨k + 1, by go_num, by omega⟩
        case measure => simp [intOf]; omega
      · obtain rfl : k = P := by omega
        have hxa : ¬ x.a < a := lo_ge a xs x (by rw [HP.out]; exact hx)
        have HA := Lib.hid (show isAt xs a = decide (x.a = a) by rw [HI.out, HP.out, hx])
        clear hx hin hc
        by_cases he : x.a = a
        · have he2 : (x.a == a) = true := by simpa using he
          have HE := Lib.hid he
          clear he
          go_wp2_with fail
          go_quiet (fail)
          go_wp2_with fail
          go_ret2
          refine ⟨?_, _, rfl⟩
          rw [HA.out, decide_eq_true HE.out]; rfl
        · have he2 : (x.a == a) = false := by simpa using he
          have HE := Lib.hid he
          clear he
          go_wp2_with fail
          go_quiet (fail)
          go_wp2_with fail
          go_ret2
          refine ⟨?_, _, rfl⟩
          rw [HA.out, decide_eq_false HE.out]; rfl
    · obtain rfl : k = L := by omega
      obtain rfl : k = P := by omega
      have HA := Lib.hid (show isAt xs a = false by rw [HI.out, HP.out, List.getElem?_eq_none (by rw [HL.out]; exact Nat.le_refl _)])
      go_wp2_with fail
      go_quiet (fail)
      go_wp2_with fail
      go_ret2
      refine ⟨?_, _, rfl⟩
      rw [HA.out]; rfl

set_option maxRecDepth 100000 in
set_option maxHeartbeats 2000000 in
theorem last_any (a : Int) (A : Option Addr) (xs : List Kp) (cap : Nat) (w : World) (h : Ks w A xs) (hcap : xs.length ≤ cap) (ha0 : 0 ≤ a) (ha1 : a < 4294967296) :
    Calls Tryz.prog 24 #[.slice A xs.length cap, .int .u32 a] w fun e w' => e = .returned (.tuple #[.int .i64 (tk (sg xs a)), .bool (any (sg xs a))]) ∧ ∃ n, w' = w.drewN n := by
  have hln := h.len
  have HC := Lib.hid (place_any a A xs cap w h ha0 ha1)
  have hle := lo_le a xs
  cases hI : isAt xs a with
  | false =>
    have HS := Lib.hid (show tk (sg xs a) = 0 ∧ any (sg xs a) = false by rw [sg_no hI]; exact ⟨rfl, rfl⟩)
    rw [hI] at HC
    clear h hI
    generalize xs.length = L at *
    generalize lo xs a = P at *
    go_enter Tryz.func24, Tryz.ntmps24
    go_wp2_with fail
    refine HC.out.mono ?_
    rintro e w1 ⟨rfl, n, rfl⟩
    go_wp2_with fail
    go_ret2
    exact ⟨by rw [HS.out.1, HS.out.2]; rfl, _, rfl⟩
  | true =>
    obtain ⟨x, hx, hxa, hlt⟩ := isAt_some hI
    obtain ⟨y, P1, c1, rfl, hin, hc⟩ := h.kn hx
    have HS := Lib.hid (sg_at hI hx)
    rw [hI] at HC
    have k1 : w.cell? ⟨(y.add (lo xs a * 2)).block, (y.add (lo xs a * 2)).off + 1, none⟩ = some (.slice P1 x.ss.length c1) := hc 1 _ rfl
    have hl8 := hin.lies.1
    rcases hn : x.ss.length with _ | m
    · have hT := Lib.hid (show tk (sg xs a) = 0 ∧ any (sg xs a) = false by rw [HS.out, List.eq_nil_of_length_eq_zero hn]; exact ⟨rfl, rfl⟩)
      rw [hn] at k1
      clear h hI hx hin hc hn hxa hl8
      generalize xs.length = L at *
      generalize lo xs a = P at *
      go_enter Tryz.func24, Tryz.ntmps24
      go_wp2_with fail
      refine HC.out.mono ?_
      rintro e w1 ⟨rfl, n, rfl⟩
      go_wp2_with fail
      go_ret2
      exact ⟨by rw [hT.out.1, hT.out.2]; rfl, _, rfl⟩
    · obtain ⟨z, hz⟩ : ∃ z, x.ss[m]? = some z := ⟨_, List.getElem?_eq_getElem (by omega)⟩
      have hT := Lib.hid (show tk (sg xs a) = z.t ∧ any (sg xs a) = true by rw [HS.out]; refine ⟨?_, by simp [any, hn]⟩; unfold tk; rw [hn, Nat.add_sub_cancel, hz]; rfl)
      obtain ⟨y1, rfl⟩ := rw_some hin.lies (by show 0 < x.ss.length; omega)
      have k2 : w.cell? ⟨(y1.add (m * 8)).block, (y1.add (m * 8)).off + 7, none⟩ = some (.int .i64 z.t) := hin.lies.at hz 7 _ rfl
      rw [hn] at k1 hl8
      have hm2 : IntKind.i64.wrap (m : Int) = (m : Int) := i64_nat (by omega)
      clear h hI hx hin hc hn hxa hz
      generalize xs.length = L at *
      generalize lo xs a = P at *
      go_enter Tryz.func24, Tryz.ntmps24
      go_wp2_with fail
      refine HC.out.mono ?_
      rintro e w1 ⟨rfl, n, rfl⟩
      go_wp2_with fail
      go_quiet (fail)
      go_wp2_with fail
      go_ret2
      exact ⟨by rw [hT.out.1, hT.out.2]; rfl, _, World.drewN_drewN _ _ _⟩
end Go.Proofs.YtilneflfeegnfaaGreat.Sn

/-
  Appends to rows of sightings, and of addresses with theirs; the contracts of slices.Clone, slices.Grow and slices.Concat at them. Conditions: of up to 1000 elements in all, which lie in memory.
-/
set_option linter.unusedSimpArgs false
set_option linter.unusedVariables false
namespace Go.Proofs.YtilneflfeegnfaaGreat.Sn
open Go.RowKit

def zsv : Value := .agg #[.int .i64 0, .int .u8 0, .int .u8 0, .int .u8 0, .int .u8 0, .int .u8 0, .int .u8 0, .int .i64 0]
def zkv : Value := .agg #[.int .u32 0, .slice none 0 0]
theorem info35 : (Tryz.prog.info? 49).map (fun i => (i.zero, i.size, i.bytes)) = some (some zsv, 8, 24) := by kernel_rfl
theorem info53 : (Tryz.prog.info? 66).map (fun i => (i.zero, i.size, i.bytes)) = some (some zkv, 2, 32) := by kernel_rfl
theorem tS : Ty eS 64 49 := ⟨Tryz.underlying64, by
  obtain ⟨i, hi, hz0, hz1, hz2⟩ := info_parts info35
  exact ⟨i, _, _, hi, hz0, hz1, hz2, rfl, by omega⟩⟩
theorem tK : Ty eK 31 66 := ⟨Tryz.underlying31, by
  obtain ⟨i, hi, hz0, hz1, hz2⟩ := info_parts info53
  exact ⟨i, _, _, hi, hz0, hz1, hz2, rfl, by omega⟩⟩

section
variable {α : Type} {E : El α} {S T : TypeId} (D : Ty E S T)
include D
theorem wpList_append_rw (w : World) {ops : Array Oper} {rest : List Oper} {o : Oper} {a : Act} {Q : Exit → Act → World → Prop} (hgd : o.guard = none) (s x : Operand) (ho : o.op = .call { callee := .builtin .append, args := #[s, x], argTypes := #[S, S] })
    (base : Nat) (v : Value) (n : Nat) (xs : List α) (hs : a.eval s = v) (hown : w.ownsRow base T E.N v n (E.cs xs)) (A : Option Addr) (m c : Nat) (ys : List α) (hx : a.eval x = .slice A m c) (hm : m = ys.length) (hr : Rw E w A ys)
    (hlen : n + m ≤ 1000000000000) (hbase : base ≤ w.heap.size)
    (h : ∀ v' w', w'.ownsRow base T E.N v' (n + m) (E.cs (xs ++ ys)) → w.grownBy w' v.ownBlock → wpList Tryz.prog ops Q rest (a.put o.dst v') w') : wpList Tryz.prog ops Q (o :: rest) a w :=
  wpList_plain hgd fun _ hK => by
    obtain ⟨v', w', hrun, h2, h3⟩ := run_append_rw D w base o.type v n xs hown A m c ys hm hr hlen hbase
    unfold Oper.wp execOp
    simp only [ho, resolve, invoke, builtin, Sem.run_bind, Sem.run_pure, Result.andThen_ok, List.map_toArray, List.map_cons, List.map_nil, hs, hx, hrun]
    exact hK _ _ (h v' w' h2 h3)
end

set_option maxRecDepth 100000 in
set_option maxHeartbeats 2000000 in
theorem cloneS_any (A : Option Addr) (xs : List Sg) (c : Nat) (w : World) (h : Rw eS w A xs) (hn : xs.length ≤ 1000000) (hc : xs.length ≤ c) : Calls Tryz.prog 53 #[.slice A xs.length c] w (OwnPost eS 49 w xs) := by
  have HN := fun W => Lib.run_eql_slice_nil (P := Tryz.prog) W 64 49 A xs.length c 0 0 Tryz.underlying64
  rcases A with _ | y
  · obtain rfl := rw_none h
    clear h hn
    simp only [List.length_nil, Option.isNone_none] at HN ⊢
    go_enter Tryz.func53, Tryz.ntmps53
    go_wp2_with fail
    go_ret
    exact ⟨_, rfl, World.ownsRow_nil _ _ _ _, Below.refl _ _⟩
  · have R := Lib.hid (h.below ((Below.refl _ w).alloc (Nat.le_refl _) (.cells #[] 49)))
    have HO := Lib.hid (World.ownsRow_made (e := 49) (size := 8) (base := w.heap.size) w #[] 0 (Nat.le_refl _) (by unfold maxLen; omega) rfl)
    have HB := Lib.hid (show Below w.heap.size w (w.alloc (.cells #[] 49)) from (Below.refl _ w).alloc (Nat.le_refl _) _)
    obtain ⟨L, hL⟩ : ∃ L, xs.length = L := ⟨_, rfl⟩
    have HL := Lib.hid hL
    rw [hL] at hn hc HN ⊢
    clear hL h
    go_enter Tryz.func53, Tryz.ntmps53
    go_wp2_with (at_builtin; refine wpList_append_rw tS _ rfl (.tmp 5) (.tmp 6) rfl w.heap.size _ 0 [] (by simp [Act.eval, Act.put]) HO.out (some y) L c xs (by simp [Act.eval, Act.put]) HL.out.symm R.out (by omega) (by simp) ?_)
    intro v2 w2 ho2 hg2
    have O2 := Lib.hid ho2
    have B2 := Lib.hid (HB.out.grown hg2 (by simp) (fun j hj => (HO.out.lt j hj).1))
    clear ho2 hg2
    go_wp2_with fail
    go_ret
    exact ⟨_, rfl, by rw [HL.out]; simpa using O2.out, B2.out⟩

set_option maxRecDepth 100000 in
set_option maxHeartbeats 2000000 in
theorem growS_any (n : Nat) (w : World) (hn : n ≤ 1000000) : Calls Tryz.prog 135 #[.slice none 0 0, .int .i64 (n : Int)] w (OwnPost eS 49 w []) := by
  by_cases h0 : n = 0
  · subst h0
    go_enter Tryz.func135, Tryz.ntmps135
    go_wp2_with fail
    go_ret
    exact ⟨_, rfl, World.ownsRow_nil _ _ _ _, Below.refl _ _⟩
  · have h1 : 0 < n := by omega
    have h1' : (0 : Int) < n := by omega
    clear h0
    go_enter Tryz.func135, Tryz.ntmps135
    go_wp2_with (at_builtin; refine wpList_zeros tS Tryz.underlying3 _ rfl (.tmp 20) (.tmp 21) rfl n (by simp [Act.eval, Act.put]) (by simp [Act.eval, Act.put]) h1 hn ?_)
    intro C cap hge hle hsz
    have HZ := Lib.hid hsz
    have HM := Lib.hid hle
    unfold maxLen at hle
    clear hsz
    go_wp2_with fail
    go_ret
    exact ⟨_, rfl, World.ownsRow_made (w.drew) C cap (Nat.le_refl _) HM.out HZ.out, (Below.refl _ w).drew.alloc (Nat.le_refl _) _⟩

set_option maxRecDepth 100000 in
set_option maxHeartbeats 4000000 in
theorem concatS_any (ps : List (Pt Sg)) (b c : Nat) (w : World) (h : Pm eS w b ps) (hn : (cat ps ps.length).length ≤ 1000000) (hps : ps.length ≤ 10) :
    Calls Tryz.prog 121 #[.slice (some ⟨b, 0, none⟩) ps.length c] w (OwnPost eS 49 w (cat ps ps.length)) := by
  have HP := Lib.hid h
  have hb := h.1
  have HC := Lib.hid (cat_le ps)
  have HS := Lib.hid (fun (k : Nat) (p : Pt Sg) (h : ps[k]? = some p) => cat_snoc h)
  obtain ⟨L, hL⟩ : ∃ L, ps.length = L := ⟨_, rfl⟩
  have HL := Lib.hid hL
  rw [hL] at hn hps HC ⊢
  clear hL h
  go_enter Tryz.func121, Tryz.ntmps121
  go_wp2_with fail
  go_loop [3, 11] (fun s i => ∃ k : Nat, i = .int .i64 k ∧ k ≤ L ∧ s = .int .i64 ((cat ps k).length : Nat)) (fun _ i => L - (intOf i).toNat)
  case atStart => exact ⟨0, rfl, by omega, by rw [cat_zero]; rfl⟩
  case round =>
    obtain ⟨k, rfl, hk, rfl⟩ := hrel
    have hkc := HC.out k
    by_cases hlt : k < L
    · obtain ⟨p, hp⟩ : ∃ p, ps[k]? = some p := ⟨_, List.getElem?_eq_getElem (by rw [HL.out]; exact hlt)⟩
      have k0 := (HP.out.2 k p hp).1
      have hkc1 := HC.out (k + 1)
      have HK := Lib.hid (HS.out _ _ hp)
      rw [HK.out, List.length_append] at hkc1
      obtain ⟨A, xs, pc⟩ := p
      dsimp only at k0 hkc1 HK
      have HX := Lib.hid (show (cat ps (k + 1)).length = (cat ps k).length + xs.length by rw [HK.out, List.length_append])
      generalize (cat ps k).length = N at *
      clear hp
      go_wp2_with fail
      go_round
      case rel => exact ⟨k + 1, by go_num, by omega, by rw [HX.out]; go_num⟩
      case measure => simp [intOf]; omega
    · obtain rfl : k = L := by omega
      have HG := Lib.hid (growS_any (cat ps k).length w hn)
      obtain ⟨N, hN⟩ : ∃ N, (cat ps k).length = N := ⟨_, rfl⟩
      have HN := Lib.hid hN
      rw [hN] at HG hn HC ⊢
      clear hN hkc
      go_wp2_with fail
      refine HG.out.mono ?_
      rintro e w1 ⟨v1, rfl, ho, hb1⟩
      have O1 := Lib.hid ho
      have B1 := Lib.hid hb1
      clear ho hb1
      go_wp2_with fail
      go_loopw [6, 27] (fun v i wr => ∃ q : Nat, i = .int .i64 q ∧ q ≤ k ∧ Hid (wr.ownsRow w.heap.size 49 8 v (cat ps q).length (eS.cs (cat ps q)) ∧ Below w.heap.size w wr)) (fun _ i _ => k - (intOf i).toNat)
      case atStart => exact ⟨0, rfl, by omega, Lib.hid ⟨by rw [cat_zero]; exact O1.out, B1.out⟩⟩
      case round =>
        obtain ⟨q, rfl, hq, HR⟩ := hrel
        by_cases hlt : q < k
        · obtain ⟨p, hp⟩ : ∃ p, ps[q]? = some p := ⟨_, List.getElem?_eq_getElem (by rw [HL.out]; exact hlt)⟩
          obtain ⟨k0, kH⟩ := HP.out.2 q p hp
          have k1 : wr.cell? ⟨b, q, none⟩ = some (.slice p.A p.xs.length p.c) := by rw [HR.out.2.cell (p := ⟨b, q, none⟩) hb]; exact k0
          have kH1 := kH.below HR.out.2
          have hkc1 := HC.out (q + 1)
          have HK := Lib.hid (HS.out _ _ hp)
          rw [HK.out, List.length_append] at hkc1
          have hlen : (cat ps q).length + p.xs.length ≤ 1000000000000 := by omega
          obtain ⟨A, xs, pc⟩ := p
          dsimp only at k1 kH1 hkc1 HK hlen
          have hbase : w.heap.size ≤ wr.heap.size := HR.out.2.size
          have ho := HR.out.1
          have HH := Lib.hid kH1
          clear hp k0 kH kH1
          go_wp2_with (at_builtin; refine wpList_append_rw tS _ rfl (.tmp 31) (.tmp 32) rfl w.heap.size _ _ _ (by simp [Act.eval, Act.put]) ho A xs.length pc xs (by simp [Act.eval, Act.put]) rfl HH.out hlen hbase ?_)
          intro v2 w2 ho2 hg2
          have O2 := Lib.hid ho2
          have B2 := Lib.hid (HR.out.2.grown hg2 hbase (fun j hj => (ho.lt j hj).1))
          clear ho2 hg2 ho
          go_wp2_with fail
          go_roundw
          case rel => exact ⟨q + 1, by go_num, by omega, Lib.hid ⟨by rw [HK.out, List.length_append]; exact O2.out, B2.out⟩⟩
          case measure => simp [intOf]; omega
        · obtain rfl : q = k := by omega
          go_wp2_with fail
          go_ret
          exact ⟨_, rfl, HR.out.1, HR.out.2⟩

set_option maxRecDepth 100000 in
set_option maxHeartbeats 2000000 in
theorem cloneK_any (A : Option Addr) (xs : List Kn) (c : Nat) (w : World) (h : Rw eK w A xs) (hn : xs.length ≤ 1000000) (hc : xs.length ≤ c) : Calls Tryz.prog 52 #[.slice A xs.length c] w (OwnPost eK 66 w xs) := by
  have HN := fun W => Lib.run_eql_slice_nil (P := Tryz.prog) W 31 66 A xs.length c 0 0 Tryz.underlying31
  rcases A with _ | y
  · obtain rfl := rw_none h
    clear h hn
    simp only [List.length_nil, Option.isNone_none] at HN ⊢
    go_enter Tryz.func52, Tryz.ntmps52
    go_wp2_with fail
    go_ret
    exact ⟨_, rfl, World.ownsRow_nil _ _ _ _, Below.refl _ _⟩
  · have R := Lib.hid (h.below ((Below.refl _ w).alloc (Nat.le_refl _) (.cells #[] 66)))
    have HO := Lib.hid (World.ownsRow_made (e := 66) (size := 2) (base := w.heap.size) w #[] 0 (Nat.le_refl _) (by unfold maxLen; omega) rfl)
    have HB := Lib.hid (show Below w.heap.size w (w.alloc (.cells #[] 66)) from (Below.refl _ w).alloc (Nat.le_refl _) _)
    obtain ⟨L, hL⟩ : ∃ L, xs.length = L := ⟨_, rfl⟩
    have HL := Lib.hid hL
    rw [hL] at hn hc HN ⊢
    clear hL h
    go_enter Tryz.func52, Tryz.ntmps52
    go_wp2_with (at_builtin; refine wpList_append_rw tK _ rfl (.tmp 5) (.tmp 6) rfl w.heap.size _ 0 [] (by simp [Act.eval, Act.put]) HO.out (some y) L c xs (by simp [Act.eval, Act.put]) HL.out.symm R.out (by omega) (by simp) ?_)
    intro v2 w2 ho2 hg2
    have O2 := Lib.hid ho2
    have B2 := Lib.hid (HB.out.grown hg2 (by simp) (fun j hj => (HO.out.lt j hj).1))
    clear ho2 hg2
    go_wp2_with fail
    go_ret
    exact ⟨_, rfl, by rw [HL.out]; simpa using O2.out, B2.out⟩

set_option maxRecDepth 100000 in
set_option maxHeartbeats 2000000 in
theorem growK_any (n : Nat) (w : World) (hn : n ≤ 1000000) : Calls Tryz.prog 122 #[.slice none 0 0, .int .i64 (n : Int)] w (OwnPost eK 66 w []) := by
  by_cases h0 : n = 0
  · subst h0
    go_enter Tryz.func122, Tryz.ntmps122
    go_wp2_with fail
    go_ret
    exact ⟨_, rfl, World.ownsRow_nil _ _ _ _, Below.refl _ _⟩
  · have h1 : 0 < n := by omega
    have h1' : (0 : Int) < n := by omega
    clear h0
    go_enter Tryz.func122, Tryz.ntmps122
    go_wp2_with (at_builtin; refine wpList_zeros tK Tryz.underlying3 _ rfl (.tmp 20) (.tmp 21) rfl n (by simp [Act.eval, Act.put]) (by simp [Act.eval, Act.put]) h1 hn ?_)
    intro C cap hge hle hsz
    have HZ := Lib.hid hsz
    have HM := Lib.hid hle
    unfold maxLen at hle
    clear hsz
    go_wp2_with fail
    go_ret
    exact ⟨_, rfl, World.ownsRow_made (w.drew) C cap (Nat.le_refl _) HM.out HZ.out, (Below.refl _ w).drew.alloc (Nat.le_refl _) _⟩

set_option maxRecDepth 100000 in
set_option maxHeartbeats 4000000 in
theorem concatK_any (ps : List (Pt Kn)) (b c : Nat) (w : World) (h : Pm eK w b ps) (hn : (cat ps ps.length).length ≤ 1000000) (hps : ps.length ≤ 10) :
    Calls Tryz.prog 84 #[.slice (some ⟨b, 0, none⟩) ps.length c] w (OwnPost eK 66 w (cat ps ps.length)) := by
  have HP := Lib.hid h
  have hb := h.1
  have HC := Lib.hid (cat_le ps)
  have HS := Lib.hid (fun (k : Nat) (p : Pt Kn) (h : ps[k]? = some p) => cat_snoc h)
  obtain ⟨L, hL⟩ : ∃ L, ps.length = L := ⟨_, rfl⟩
  have HL := Lib.hid hL
  rw [hL] at hn hps HC ⊢
  clear hL h
  go_enter Tryz.func84, Tryz.ntmps84
  go_wp2_with fail
  go_loop [3, 11] (fun s i => ∃ k : Nat, i = .int .i64 k ∧ k ≤ L ∧ s = .int .i64 ((cat ps k).length : Nat)) (fun _ i => L - (intOf i).toNat)
  case atStart => exact ⟨0, rfl, by omega, by rw [cat_zero]; rfl⟩
  case round =>
    obtain ⟨k, rfl, hk, rfl⟩ := hrel
    have hkc := HC.out k
    by_cases hlt : k < L
    · obtain ⟨p, hp⟩ : ∃ p, ps[k]? = some p := ⟨_, List.getElem?_eq_getElem (by rw [HL.out]; exact hlt)⟩
      have k0 := (HP.out.2 k p hp).1
      have hkc1 := HC.out (k + 1)
      have HK := Lib.hid (HS.out _ _ hp)
      rw [HK.out, List.length_append] at hkc1
      obtain ⟨A, xs, pc⟩ := p
      dsimp only at k0 hkc1 HK
      have HX := Lib.hid (show (cat ps (k + 1)).length = (cat ps k).length + xs.length by rw [HK.out, List.length_append])
      generalize (cat ps k).length = N at *
      clear hp
      go_wp2_with fail
      go_round
      case rel => exact ⟨k + 1, by go_num, by omega, by rw [HX.out]; go_num⟩
      case measure => simp [intOf]; omega
    · obtain rfl : k = L := by omega
      have HG := Lib.hid (growK_any (cat ps k).length w hn)
      obtain ⟨N, hN⟩ : ∃ N, (cat ps k).length = N := ⟨_, rfl⟩
      have HN := Lib.hid hN
      rw [hN] at HG hn HC ⊢
      clear hN hkc
      go_wp2_with fail
      refine HG.out.mono ?_
      rintro e w1 ⟨v1, rfl, ho, hb1⟩
      have O1 := Lib.hid ho
      have B1 := Lib.hid hb1
      clear ho hb1
      go_wp2_with fail
      go_loopw [6, 27] (fun v i wr => ∃ q : Nat, i = .int .i64 q ∧ q ≤ k ∧ Hid (wr.ownsRow w.heap.size 66 2 v (cat ps q).length (eK.cs (cat ps q)) ∧ Below w.heap.size w wr)) (fun _ i _ => k - (intOf i).toNat)
      case atStart => exact ⟨0, rfl, by omega, Lib.hid ⟨by rw [cat_zero]; exact O1.out, B1.out⟩⟩
      case round =>
        obtain ⟨q, rfl, hq, HR⟩ := hrel
        by_cases hlt : q < k
        · obtain ⟨p, hp⟩ : ∃ p, ps[q]? = some p := ⟨_, List.getElem?_eq_getElem (by rw [HL.out]; exact hlt)⟩
          obtain ⟨k0, kH⟩ := HP.out.2 q p hp
          have k1 : wr.cell? ⟨b, q, none⟩ = some (.slice p.A p.xs.length p.c) := by rw [HR.out.2.cell (p := ⟨b, q, none⟩) hb]; exact k0
          have kH1 := kH.below HR.out.2
          have hkc1 := HC.out (q + 1)
          have HK := Lib.hid (HS.out _ _ hp)
          rw [HK.out, List.length_append] at hkc1
          have hlen : (cat ps q).length + p.xs.length ≤ 1000000000000 := by omega
          obtain ⟨A, xs, pc⟩ := p
          dsimp only at k1 kH1 hkc1 HK hlen
          have hbase : w.heap.size ≤ wr.heap.size := HR.out.2.size
          have ho := HR.out.1
          have HH := Lib.hid kH1
          clear hp k0 kH kH1
          go_wp2_with (at_builtin; refine wpList_append_rw tK _ rfl (.tmp 31) (.tmp 32) rfl w.heap.size _ _ _ (by simp [Act.eval, Act.put]) ho A xs.length pc xs (by simp [Act.eval, Act.put]) rfl HH.out hlen hbase ?_)
          intro v2 w2 ho2 hg2
          have O2 := Lib.hid ho2
          have B2 := Lib.hid (HR.out.2.grown hg2 hbase (fun j hj => (ho.lt j hj).1))
          clear ho2 hg2 ho
          go_wp2_with fail
          go_roundw
          case rel => exact ⟨q + 1, by go_num, by omega, Lib.hid ⟨by rw [HK.out, List.length_append]; exact O2.out, B2.out⟩⟩
          case measure => simp [intOf]; omega
        · obtain rfl : q = k := by omega
          go_wp2_with fail
          go_ret
          exact ⟨_, rfl, HR.out.1, HR.out.2⟩
end Go.Proofs.YtilneflfeegnfaaGreat.Sn

/-
  The contracts of seen.Of, seen.copied and seen.Keep. Conditions: the rows lie in memory, and have up to 1000000 elements.
-/
set_option linter.unusedSimpArgs false
set_option linter.unusedVariables false
namespace Go.Proofs.YtilneflfeegnfaaGreat.Sn
open Go.RowKit

/-- A slice of these sightings; of these addresses. -/
def sF (ss : List Sg) : Value → World → Prop := fun v W => ∃ A c, v = .slice A ss.length c ∧ ss.length ≤ c ∧ c ≤ maxLen ∧ Rw eS W A ss
def kF (ps : List Kp) : Value → World → Prop := fun v W => ∃ A c, v = .slice A ps.length c ∧ ps.length ≤ c ∧ c ≤ maxLen ∧ Ks W A ps
theorem stable_sF (ss : List Sg) : Stable (sF ss) := fun _ _ _ ⟨A, c, h1, h2, h3, h4⟩ hb => ⟨A, c, h1, h2, h3, h4.below hb⟩
theorem stable_kF (ps : List Kp) : Stable (kF ps) := fun _ _ _ ⟨A, c, h1, h2, h3, h4⟩ hb => ⟨A, c, h1, h2, h3, h4.below hb⟩
def SPost (w : World) (ss : List Sg) (e : Ending) (w' : World) : Prop := ∃ v, e = .returned v ∧ Below w.heap.size w w' ∧ sF ss v w'
def KPost (w : World) (ps : List Kp) (e : Ending) (w' : World) : Prop := ∃ v, e = .returned v ∧ Below w.heap.size w w' ∧ kF ps v w'
theorem OwnPost.s {w w' : World} {ss : List Sg} {e : Ending} (h : OwnPost eS 49 w ss e w') (hn : ss.length ≤ 1000000000) : SPost w ss e w' := by
  obtain ⟨v, he, ho, hb⟩ := h
  obtain ⟨A, cap, rfl, hc, hm, _, hr, _⟩ := own_rw (E := eS) ho (by omega)
  exact ⟨_, he, hb, A, cap, rfl, hc, hm, hr⟩
theorem sF_nil (W : World) : sF [] (.slice none 0 0) W := ⟨none, 0, rfl, by simp, by unfold maxLen; omega, Rw.nil _ _⟩
theorem kF_nil (W : World) : kF [] (.slice none 0 0) W := ⟨none, 0, rfl, by simp, by unfold maxLen; omega, Ks.nil _ _⟩

theorem size35' (W : World) : (Go.sizeOf 49).run Tryz.prog W = .ok 8 W := by
  obtain ⟨i, hi, hs⟩ := Option.map_eq_some_iff.1 size35
  rw [← hs]
  simp [Go.sizeOf, typeInfo, hi]
theorem size53' (W : World) : (Go.sizeOf 66).run Tryz.prog W = .ok 2 W := by
  obtain ⟨i, hi, hs⟩ := Option.map_eq_some_iff.1 size53
  rw [← hs]
  simp [Go.sizeOf, typeInfo, hi]
theorem slS_l (A : Option Addr) (n c k : Nat) (hk : k ≤ n) (hc : n ≤ c) (W : World) : (Instr.slice 64 (.slice A n c) (some (.int .i64 (k : Int))) none none).run Tryz.prog W = .ok (.slice (dA 8 A c k) (n - k) (c - k)) W := by
  have h1 : (k : Int) ≤ n := by omega
  unfold Instr.slice Instr.sliceBounds Instr.sliceBound
  simp only [Sem.run_bind, run_underlying Tryz.underlying64, Result.andThen_ok, Sem.run_pure, size35', asIntOf]
  try simp only [Option.isSome_none, Bool.false_eq_true, if_false, Sem.run_bind, Sem.run_pure, Result.andThen_ok]
  rw [if_pos ⟨by omega, h1⟩]
  simp only [Sem.run_bind, Sem.run_pure, Result.andThen_ok, Int.toNat_natCast]
  rfl
theorem slK_l (A : Option Addr) (n c k : Nat) (hk : k ≤ n) (hc : n ≤ c) (W : World) : (Instr.slice 31 (.slice A n c) (some (.int .i64 (k : Int))) none none).run Tryz.prog W = .ok (.slice (dA 2 A c k) (n - k) (c - k)) W := by
  have h1 : (k : Int) ≤ n := by omega
  unfold Instr.slice Instr.sliceBounds Instr.sliceBound
  simp only [Sem.run_bind, run_underlying Tryz.underlying31, Result.andThen_ok, Sem.run_pure, size53', asIntOf]
  try simp only [Option.isSome_none, Bool.false_eq_true, if_false, Sem.run_bind, Sem.run_pure, Result.andThen_ok]
  rw [if_pos ⟨by omega, h1⟩]
  simp only [Sem.run_bind, Sem.run_pure, Result.andThen_ok, Int.toNat_natCast]
  rfl
theorem slK_h (A : Option Addr) (n c i : Nat) (hi : i ≤ c) (W : World) : (Instr.slice 31 (.slice A n c) none (some (.int .i64 (i : Int))) none).run Tryz.prog W = .ok (.slice A i c) W := by
  have h1 : (i : Int) ≤ c := by omega
  have h2 : A.map (·.add (0 * 2)) = A := by cases A <;> simp [Addr.add]
  unfold Instr.slice Instr.sliceBounds Instr.sliceBound
  simp only [Sem.run_bind, run_underlying Tryz.underlying31, Result.andThen_ok, Sem.run_pure, size53', asIntOf]
  try simp only [Option.isSome_none, Bool.false_eq_true, if_false, Sem.run_bind, Sem.run_pure, Result.andThen_ok]
  rw [if_pos ⟨by omega, h1⟩]
  simp only [Sem.run_bind, Sem.run_pure, Result.andThen_ok, h2, ite_self, Nat.sub_zero, Int.toNat_natCast]

set_option maxRecDepth 100000 in
set_option maxHeartbeats 2000000 in
theorem of_any (a : Int) (A : Option Addr) (xs : List Kp) (cap : Nat) (w : World) (h : Ks w A xs) (hcap : xs.length ≤ cap) (hb : ∀ x ∈ xs, x.ss.length ≤ 1000000) (ha0 : 0 ≤ a) (ha1 : a < 4294967296) :
    Calls Tryz.prog 43 #[.slice A xs.length cap, .int .u32 a] w (SPost w (sg xs a)) := by
  have hln := h.len
  have HC := Lib.hid (place_any a A xs cap w h ha0 ha1)
  have hle := lo_le a xs
  cases hI : isAt xs a with
  | false =>
    have HS := Lib.hid (show sg xs a = [] from sg_no hI)
    rw [hI] at HC
    clear h hI
    generalize xs.length = L at *
    generalize lo xs a = P at *
    go_enter Tryz.func43, Tryz.ntmps43
    go_wp2_with fail
    refine HC.out.mono ?_
    rintro e w1 ⟨rfl, n, rfl⟩
    go_wp2_with fail
    go_ret
    exact ⟨_, rfl, bdrewN (Below.refl _ _) _, by rw [HS.out]; exact sF_nil _⟩
  | true =>
    obtain ⟨x, hx, hxa, hlt⟩ := isAt_some hI
    obtain ⟨y, P1, c1, rfl, hin, hc⟩ := h.kn hx
    have HS := Lib.hid (sg_at hI hx)
    rw [hI] at HC
    have k1 : w.cell? ⟨(y.add (lo xs a * 2)).block, (y.add (lo xs a * 2)).off + 1, none⟩ = some (.slice P1 x.ss.length c1) := hc 1 _ rfl
    have hl8 := hb x (List.mem_of_getElem? hx)
    have HCL := Lib.hid fun n => cloneS_any P1 x.ss c1 (w.drewN n) (hin.lies.drewN n) hl8 hin.le
    have HL8 := Lib.hid hl8
    clear h hI hx hin hc hxa hb hl8
    generalize xs.length = L at *
    generalize lo xs a = P at *
    go_enter Tryz.func43, Tryz.ntmps43
    go_wp2_with fail
    refine HC.out.mono ?_
    rintro e w1 ⟨rfl, n, rfl⟩
    go_wp2_with fail
    refine (HCL.out n).mono ?_
    intro e w2 hp
    obtain ⟨v, rfl, hb, hs⟩ := OwnPost.s hp (by have := HL8.out; omega)
    have BB := Lib.hid hb
    have SS := Lib.hid hs
    clear hp hb hs
    go_wp2_with fail
    go_ret
    exact ⟨_, rfl, (bdrewN (Below.refl _ w) n).trans BB.out, by rw [HS.out]; exact SS.out⟩

/-- A new variable with a sighting is a row of one. -/
theorem rw_one (W : World) (s : Sg) : Rw eS (W.alloc (Sx s)) (some ⟨W.heap.size, 0, none⟩) [s] := by
  refine ⟨by simp, fun q z hq => ?_⟩
  match q, hq with
  | 0, hq =>
    simp at hq
    subst hq
    refine ⟨_, rfl, fun j v hv => ?_⟩
    rw [Addr.add_mid]
    change (sl s)[j]? = some v at hv
    show (W.alloc (Sx s)).cell? ⟨W.heap.size, 0 + (0 * 8 + j), none⟩ = _
    match j, hv with
    | 0, h => simp [sl] at h; subst h; simp [Sx]
    | 1, h => simp [sl] at h; subst h; simp [Sx]
    | 2, h => simp [sl] at h; subst h; simp [Sx]
    | 3, h => simp [sl] at h; subst h; simp [Sx]
    | 4, h => simp [sl] at h; subst h; simp [Sx]
    | 5, h => simp [sl] at h; subst h; simp [Sx]
    | 6, h => simp [sl] at h; subst h; simp [Sx]
    | 7, h => simp [sl] at h; subst h; simp [Sx]
    | j + 8, h => simp [sl] at h
  | q + 1, hq => simp at hq
theorem sF_one (W : World) (s : Sg) : sF [s] (.slice (some ⟨W.heap.size, 0, none⟩) 1 1) (W.alloc (Sx s)) := ⟨_, 1, rfl, by simp, by unfold maxLen; omega, rw_one W s⟩
/-- A variable with a sighting reads so. -/
theorem s_c8 {W : World} {b : Nat} {s : Sg} (h : Rw eS W (some ⟨b, 0, none⟩) [s]) : W.cell? ⟨b, 0, none⟩ = some (.int .i64 s.f) ∧ W.cell? ⟨b, 1, none⟩ = some (.int .u8 s.m0) ∧ W.cell? ⟨b, 2, none⟩ = some (.int .u8 s.m1) ∧ W.cell? ⟨b, 3, none⟩ = some (.int .u8 s.m2) ∧ W.cell? ⟨b, 4, none⟩ = some (.int .u8 s.m3) ∧ W.cell? ⟨b, 5, none⟩ = some (.int .u8 s.m4) ∧ W.cell? ⟨b, 6, none⟩ = some (.int .u8 s.m5) ∧ W.cell? ⟨b, 7, none⟩ = some (.int .i64 s.t) := by
  have H : ∀ j v, (sl s)[j]? = some v → W.cell? ⟨b, j, none⟩ = some v := fun j v hv => by
    have := h.at (q := 0) (x := s) rfl j v hv
    rw [show ((⟨b, 0, none⟩ : Addr).add (0 * eS.N)).add j = ⟨b, j, none⟩ by rw [Nat.zero_mul, show (⟨b, 0, none⟩ : Addr).add 0 = ⟨b, 0, none⟩ from rfl, Addr.add_mid, Nat.zero_add]] at this
    exact this
  exact ⟨H 0 _ rfl, H 1 _ rfl, H 2 _ rfl, H 3 _ rfl, H 4 _ rfl, H 5 _ rfl, H 6 _ rfl, H 7 _ rfl⟩

/-- Parts that come to a row. -/
def qF {α : Type} (E : El α) (n : Nat) (rs : List α) : Value → World → Prop := fun v W => ∃ b qs, v = .slice (some ⟨b, 0, none⟩) n n ∧ qs.length = n ∧ Pm E W b qs ∧ cat qs n = rs
theorem Pm.below {α : Type} {E : El α} {w w' : World} {b : Nat} {ps : List (Pt α)} (h : Pm E w b ps) (hb : Below w.heap.size w w') : Pm E w' b ps :=
  ⟨Nat.lt_of_lt_of_le h.1 hb.size, fun k p hp => ⟨by rw [hb.cell (p := ⟨b, k, none⟩) h.1]; exact (h.2 k p hp).1, (h.2 k p hp).2.below hb⟩⟩
theorem stable_qF {α : Type} (E : El α) (n : Nat) (rs : List α) : Stable (qF E n rs) := fun _ _ _ ⟨b, qs, h1, h2, h3, h4⟩ hb => ⟨b, qs, h1, h2, Pm.below h3 hb, h4⟩
theorem pm_two {α : Type} {E : El α} (W : World) (p q : Pt α) (t : TypeId) (hp : Rw E W p.A p.xs) (hq : Rw E W q.A q.xs) : Pm E (W.alloc (.cells #[.slice p.A p.xs.length p.c, .slice q.A q.xs.length q.c] t)) W.heap.size [p, q] := by
  refine ⟨by simp, fun k r hr => ?_⟩
  match k, hr with
  | 0, hr => simp at hr; subst hr; exact ⟨by simp, hp.below ((Below.refl _ _).alloc (Nat.le_refl _) _)⟩
  | 1, hr => simp at hr; subst hr; exact ⟨by simp, hq.below ((Below.refl _ _).alloc (Nat.le_refl _) _)⟩
  | k + 2, hr => simp at hr
theorem pm_three {α : Type} {E : El α} (W : World) (p q s : Pt α) (t : TypeId) (hp : Rw E W p.A p.xs) (hq : Rw E W q.A q.xs) (hs : Rw E W s.A s.xs) : Pm E (W.alloc (.cells #[.slice p.A p.xs.length p.c, .slice q.A q.xs.length q.c, .slice s.A s.xs.length s.c] t)) W.heap.size [p, q, s] := by
  refine ⟨by simp, fun k r hr => ?_⟩
  match k, hr with
  | 0, hr => simp at hr; subst hr; exact ⟨by simp, hp.below ((Below.refl _ _).alloc (Nat.le_refl _) _)⟩
  | 1, hr => simp at hr; subst hr; exact ⟨by simp, hq.below ((Below.refl _ _).alloc (Nat.le_refl _) _)⟩
  | 2, hr => simp at hr; subst hr; exact ⟨by simp, hs.below ((Below.refl _ _).alloc (Nat.le_refl _) _)⟩
  | k + 3, hr => simp at hr
theorem qS_two {W : World} {A1 A2 : Option Addr} {c1 c2 : Nat} {s1 s2 : List Sg} (t : TypeId) (h1 : Rw eS W A1 s1) (h2 : Rw eS W A2 s2) : qF eS 2 (s1 ++ s2) (.slice (some ⟨W.heap.size, 0, none⟩) 2 2) (W.alloc (.cells #[.slice A1 s1.length c1, .slice A2 s2.length c2] t)) :=
  ⟨_, [⟨A1, s1, c1⟩, ⟨A2, s2, c2⟩], rfl, rfl, pm_two W ⟨A1, s1, c1⟩ ⟨A2, s2, c2⟩ t h1 h2, by simp [cat]⟩

/-- The sightings with one more, behind; of up to eight. -/
def kp (ss : List Sg) (s : Sg) : List Sg := ss.drop (ss.length - 7) ++ [s]
theorem calls_sF {f : FuncId} {args : Array Value} {W : World} {ss : List Sg} {Φ : List (Value → World → Prop)} {i : Nat} (h : Calls Tryz.prog f args W (SPost W ss)) (hi : fAt Φ i = sF ss) : Calls Tryz.prog f args W fun e w' => ∃ v, e = .returned v ∧ Below W.heap.size W w' ∧ fAt Φ i v w' := by
  rw [hi]; exact h
theorem calls_kF {f : FuncId} {args : Array Value} {W : World} {ps : List Kp} {Φ : List (Value → World → Prop)} {i : Nat} (h : Calls Tryz.prog f args W (KPost W ps)) (hi : fAt Φ i = kF ps) : Calls Tryz.prog f args W fun e w' => ∃ v, e = .returned v ∧ Below W.heap.size W w' ∧ fAt Φ i v w' := by
  rw [hi]; exact h

set_option maxRecDepth 100000 in
set_option maxHeartbeats 4000000 in
theorem keep_any (s : Sg) (A : Option Addr) (xs : List Sg) (cap : Nat) (w : World) (h : Rw eS w A xs) (hc : xs.length ≤ cap) (hx : xs.length ≤ 1000000) :
    Calls Tryz.prog 83 #[.slice A xs.length cap, sv s] w (SPost w (kp xs s)) := by
  obtain ⟨K, hK⟩ : ∃ K, xs.length - 7 = K := ⟨_, rfl⟩
  obtain ⟨R, hR⟩ : ∃ R, kp xs s = R := ⟨_, rfl⟩
  have hR' : xs.drop K ++ [s] = R := by rw [← hR, ← hK]; rfl
  have hRl : R.length ≤ 1000000 := by rw [← hR', List.length_append, List.length_drop, List.length_singleton]; omega
  have HSL := Lib.hid fun W => slS_l A xs.length cap K (by omega) hc W
  have HBX0 := Lib.hid (rw_one w s)
  have HB0 := Lib.hid (show Below w.heap.size w (w.alloc (Sx s)) from (Below.refl _ w).alloc (Nat.le_refl _) _)
  have HCC := Lib.hid (show ∀ W b qs, List.length qs = 2 → Pm eS W b qs → cat qs 2 = R → Calls Tryz.prog 121 #[.slice (some ⟨b, 0, none⟩) 2 2] W (SPost W R) from fun W b qs hl hp hct => by
    have := concatS_any qs b 2 W hp (by rw [hl, hct]; omega) (by omega)
    rw [hl, hct] at this
    exact this.mono fun e w' hq => OwnPost.s hq (by omega))
  have HQ := Lib.hid (show ∀ W, Below (w.alloc (Sx s)).heap.size (w.alloc (Sx s)) W → ∀ A4 c4, Rw eS W A4 [s] → qF eS 2 R (.slice (some ⟨W.heap.size, 0, none⟩) 2 2) (W.alloc (.cells #[.slice (dA 8 A cap K) (xs.length - K) (cap - K), .slice A4 1 c4] 64)) from fun W hW A4 c4 h4 => by
    have hd := (h.below ((hx_below _ hW))).rest hc K
    have := qS_two (c1 := cap - K) (c2 := c4) 64 hd h4
    rw [List.length_drop, List.length_singleton, hR'] at this
    exact this)
  rw [hR]
  clear hR hR' hRl
  generalize xs.length = L at *
  have hM : max (0 : Int) ((L : Int) + 1 - 8) = (K : Int) := by omega
  have hKL : K ≤ L := by omega
  obtain ⟨sf, x0, x1, x2, x3, x4, x5, st⟩ := s
  simp only [sv, Sx] at HBX0 HB0 HQ ⊢
  clear hK h
  go_enter Tryz.func83, Tryz.ntmps83
  go_wp2_with fail
  refine wp_region_below [fx (.slice A L cap), fx (.int .i64 (K : Int)), fx (.slice (dA 8 A cap K) (L - K) (cap - K)), fx (.agg #[.int .i64 sf, .int .u8 x0, .int .u8 x1, .int .u8 x2, .int .u8 x3, .int .u8 x4, .int .u8 x5, .int .i64 st]), sF [⟨sf, x0, x1, x2, x3, x4, x5, st⟩], qF eS 2 R, sF R, sF R]
    (by kernel_rfl) (by kernel_rfl) (by kernel_rfl) ?_ ?_ ?_
  · simp only [List.mem_cons, List.not_mem_nil, or_false]
    rintro φ (rfl | rfl | rfl | rfl | rfl | rfl | rfl | rfl)
    all_goals first | exact stable_fx _ | exact stable_fr _ _ | exact stable_sF _ | exact stable_qF _ _ _
  · refine OgSteps.cons ?_ (OgSteps.cons ?_ (OgSteps.cons ?_ (OgSteps.cons ?_ (OgSteps.cons ?_ (OgSteps.cons ?_ (OgSteps.cons ?_ (OgSteps.cons ?_ (OgSteps.nil))))))))
    · refine OgStep.pure ?_ ?_
      · rfl
      intro u W hS hp
      refine ⟨.slice A L cap, ?_, rfl⟩
      simp only [ogMk, Act.put, List.setIfInBounds_toArray, List.set_cons_zero, List.set_cons_succ, Nat.zero_add, Nat.reduceAdd]
      simp [execOp, Act.eval, go_sem]
    · refine OgStep.pure ?_ ?_
      · rfl
      intro u W hS hp
      refine ⟨.int .i64 (K : Int), ?_, rfl⟩
      simp only [ogMk, Act.put, List.setIfInBounds_toArray, List.set_cons_zero, List.set_cons_succ, Nat.zero_add, Nat.reduceAdd]
      simp [execOp, Act.eval, go_sem]
    · refine OgStep.pure ?_ ?_
      · rfl
      intro u W hS hp
      have h0 : u 0 = .slice A L cap := hp ⟨0, .data⟩ (by simp) rfl
      have h1 : u 1 = .int .i64 (K : Int) := hp ⟨1, .data⟩ (by simp) rfl
      have R := HSL.out W
      refine ⟨.slice (dA 8 A cap K) (L - K) (cap - K), ?_, rfl⟩
      simp only [ogMk, Act.put, List.setIfInBounds_toArray, List.set_cons_zero, List.set_cons_succ, Nat.zero_add, Nat.reduceAdd]
      simp [execOp, Act.eval, go_sem, h0, h1, R]
    · refine OgStep.pure ?_ ?_
      · rfl
      intro u W hS hp
      obtain ⟨R0, R1, R2, R3, R4, R5, R6, R7⟩ := s_c8 (HBX0.out.below hS)
      refine ⟨.agg #[.int .i64 sf, .int .u8 x0, .int .u8 x1, .int .u8 x2, .int .u8 x3, .int .u8 x4, .int .u8 x5, .int .i64 st], ?_, rfl⟩
      simp only [ogMk, Act.put, List.setIfInBounds_toArray, List.set_cons_zero, List.set_cons_succ, Nat.zero_add, Nat.reduceAdd]
      simp [execOp, Act.eval, go_sem, R0, R1, R2, R3, R4, R5, R6, R7]
    · refine OgStep.made ?_ ?_
      · rfl
      intro u W hS hp
      have h3 : u 3 = .agg #[.int .i64 sf, .int .u8 x0, .int .u8 x1, .int .u8 x2, .int .u8 x3, .int .u8 x4, .int .u8 x5, .int .i64 st] := hp ⟨3, .data⟩ (by simp) rfl
      refine ⟨.slice (some ⟨W.heap.size, 0, none⟩) 1 1, _, ?_, (Below.refl _ W).alloc (Nat.le_refl _) _, sF_one W ⟨sf, x0, x1, x2, x3, x4, x5, st⟩⟩
      simp only [ogMk, Act.put, List.setIfInBounds_toArray, List.set_cons_zero, List.set_cons_succ, Nat.zero_add, Nat.reduceAdd]
      simp [execOp, Act.eval, go_sem, h3, Sx]
    · refine OgStep.made ?_ ?_
      · rfl
      intro u W hS hp
      obtain ⟨A4, c4, h4, _, _, hR4⟩ : sF [⟨sf, x0, x1, x2, x3, x4, x5, st⟩] (u 4) W := hp ⟨4, .data⟩ (by simp) rfl
      have h2 : u 2 = .slice (dA 8 A cap K) (L - K) (cap - K) := hp ⟨2, .data⟩ (by simp) rfl
      refine ⟨.slice (some ⟨W.heap.size, 0, none⟩) 2 2, _, ?_, (Below.refl _ W).alloc (Nat.le_refl _) _, HQ.out W hS A4 c4 hR4⟩
      simp only [ogMk, Act.put, List.setIfInBounds_toArray, List.set_cons_zero, List.set_cons_succ, Nat.zero_add, Nat.reduceAdd]
      rw [h2, h4]
      simp [execOp, Act.eval, go_sem]
    · refine OgStep.calls ?_ ?_
      · rfl
      intro u W hS hp
      have h5 : qF eS 2 R (u 5) W := hp ⟨5, .data⟩ (by simp) rfl
      obtain ⟨b, qs, e5, hl5, hPm, hct⟩ := h5
      refine ⟨121, #[.slice (some ⟨b, 0, none⟩) 2 2], ?_, calls_sF (HCC.out W b qs hl5 hPm hct) rfl⟩
      simp only [ogMk, Act.put, List.setIfInBounds_toArray, List.set_cons_zero, List.set_cons_succ, Nat.zero_add, Nat.reduceAdd]
      rw [e5]
      simp [execOp, Act.eval, go_sem]
    · refine OgStep.pure ?_ ?_
      · rfl
      intro u W hS hp
      have h6 : sF R (u 6) W := hp ⟨6, .data⟩ (by simp) rfl
      refine ⟨u 6, ?_, h6⟩
      simp only [ogMk, Act.put, List.setIfInBounds_toArray, List.set_cons_zero, List.set_cons_succ, Nat.zero_add, Nat.reduceAdd]
      simp [execOp, Act.eval, go_sem]
  · intro u W hS hF'
    have hF7 : sF R (u 7) W := hF' 7 (by decide)
    have hF := hF'
    have e0 : u 0 = .slice A L cap := hF 0 (by decide)
    have e1 : u 1 = .int .i64 (K : Int) := hF 1 (by decide)
    have e2 : u 2 = .slice (dA 8 A cap K) (L - K) (cap - K) := hF 2 (by decide)
    have e3 : u 3 = .agg #[.int .i64 sf, .int .u8 x0, .int .u8 x1, .int .u8 x2, .int .u8 x3, .int .u8 x4, .int .u8 x5, .int .i64 st] := hF 3 (by decide)
    simp only [ogMk, Act.put, List.setIfInBounds_toArray, List.set_cons_zero, List.set_cons_succ, Nat.zero_add, Nat.reduceAdd]
    rw [e0, e1, e2, e3]
    clear hF' e0 e1 e2 e3 hF
    go_wp2_with fail
    go_ret
    exact ⟨_, rfl, HB0.out.trans (hS.mono (by simp)), hF7⟩
end Go.Proofs.YtilneflfeegnfaaGreat.Sn

/-
  The contract of seen.copied. Conditions: the row lies in memory, and has up to 1000000 addresses, each of up to 1000000 sightings.
-/
set_option linter.unusedSimpArgs false
set_option linter.unusedVariables false
namespace Go.Proofs.YtilneflfeegnfaaGreat.Sn
open Go.RowKit

/-- A row of sightings has no slice among its cells. -/
theorem rwS_stored {w : World} {P : Option Addr} {ss : List Sg} {p : Addr} {A' : Option Addr} {n c : Nat} (h : Rw eS w P ss) (hp : w.cell? p = some (.slice A' n c)) (u : Value) : Rw eS (w.setCell p u) P ss := by
  refine ⟨h.1, fun q x hq => ?_⟩
  obtain ⟨y, hy, hc⟩ := h.2 q x hq
  refine ⟨y, hy, fun j v hv => ?_⟩
  have h1 := hc j v hv
  rw [World.cell?_setCell_other]
  · exact h1
  · intro e
    rw [← e, hp] at h1
    injection h1 with h1
    subst h1
    have := List.mem_of_getElem? hv
    simp [eS, sl] at this
theorem kn_stored {w : World} {x : Kn} {p : Addr} {A' : Option Addr} {n c : Nat} (h : x.In w) (hp : w.cell? p = some (.slice A' n c)) (u : Value) : x.In (w.setCell p u) := ⟨h.a0, h.a1, rwS_stored h.lies hp u, h.le, h.max⟩
/-- The cells of a row of which one has its sightings elsewhere. -/
theorem cs_set {ys : List Kn} {k : Nat} {y z : Kn} (hy : ys[k]? = some y) (ha : z.a = y.a) : eK.cs (ys.set k z) = (eK.cs ys).set (k * 2 + 1) (.slice z.P z.ss.length z.c) := by
  induction ys generalizing k with
  | nil => simp at hy
  | cons x r ih =>
    cases k with
    | zero =>
      simp at hy
      subst hy
      simp [El.cs, eK, kl, ha]
    | succ k =>
      have := ih (by simpa using hy)
      show eK.cl x ++ eK.cs (r.set k z) = (eK.cl x ++ eK.cs r).set ((k + 1) * 2 + 1) _
      rw [this, show (k + 1) * 2 + 1 = (eK.cl x).length + (k * 2 + 1) by show _ = 2 + _; omega, List.set_append_right _ _ (by omega)]
      simp
theorem cs_slice {ys : List Kn} {k : Nat} {y : Kn} (hy : ys[k]? = some y) : (eK.cs ys)[k * 2 + 1]? = some (.slice y.P y.ss.length y.c) := cs_at (E := eK) ys k y 1 hy (by decide)
theorem map_set {ys : List Kn} {k : Nat} {y z : Kn} (hy : ys[k]? = some y) (hz : z.p = y.p) : (ys.set k z).map Kn.p = ys.map Kn.p := by
  rw [List.map_set, hz]
  apply List.ext_getElem?
  intro j
  rw [List.getElem?_set]
  split
  · rename_i e
    subst e
    have := (List.getElem?_eq_some_iff.1 hy).1
    simp [this, hy]
    exact (List.getElem?_eq_some_iff.1 hy).2 ▸ rfl
  · rfl

set_option maxRecDepth 100000 in
set_option maxHeartbeats 2000000 in
theorem copied_any (A : Option Addr) (ps : List Kp) (cap : Nat) (w : World) (h : Ks w A ps) (hcap : ps.length ≤ cap) (hn : ps.length ≤ 1000000) (hb : ∀ x ∈ ps, x.ss.length ≤ 1000000) :
    Calls Tryz.prog 85 #[.slice A ps.length cap] w (KPost w ps) := by
  obtain ⟨xs, hxp, hK⟩ := h
  have hxl : xs.length = ps.length := by rw [← hxp, List.length_map]
  have HC := Lib.hid (cloneK_any A xs cap w hK.1 (by omega) (by omega))
  rw [hxl] at HC
  have HXP := Lib.hid hxp
  have HIN := Lib.hid hK.2
  have HPB := Lib.hid hb
  obtain ⟨L, hL⟩ : ∃ L, ps.length = L := ⟨_, rfl⟩
  have HL := Lib.hid hL
  have HXL := Lib.hid (hxl.trans hL)
  rw [hL] at hcap hn HC ⊢
  clear hL hxl hxp hK hb
  go_enter Tryz.func85, Tryz.ntmps85
  go_wp2_with fail
  refine HC.out.mono ?_
  rintro e w1 ⟨v1, rfl, ho, hbb⟩
  obtain ⟨A1, c1, rfl, hlc, hmc, -, -, -⟩ := own_rw (E := eK) ho (by rw [HXL.out]; omega)
  rw [HXL.out] at hlc ho ⊢
  have HR := Lib.hid (show ∃ ys, ys.map Kn.p = ps ∧ w1.ownsRow w.heap.size 66 2 (.slice A1 L c1) L (eK.cs ys) ∧ (∀ y ∈ ys, y.In w1) ∧ Below w.heap.size w w1 from ⟨xs, HXP.out, ho, fun y hy => (HIN.out y hy).below hbb, hbb⟩)
  have HMC := Lib.hid hmc
  clear ho hbb hmc
  go_wp2_with fail
  go_loopw [9] (fun i wr => ∃ k : Nat, i = .int .i64 k ∧ k ≤ L ∧ Hid (∃ ys, ys.map Kn.p = ps ∧ wr.ownsRow w.heap.size 66 2 (.slice A1 L c1) L (eK.cs ys) ∧ (∀ y ∈ ys, y.In wr) ∧ Below w.heap.size w wr)) (fun i _ => L - (intOf i).toNat)
  case atStart => exact ⟨0, rfl, by omega, HR⟩
  case round =>
    obtain ⟨k, rfl, hk, HH⟩ := hrel
    clear HR
    by_cases hlt : k < L
    · obtain ⟨ys, h1, h2, h3, h4⟩ := HH.out
      obtain ⟨g, cap', hv, hg1, hg2⟩ := h2.form (by omega)
      obtain ⟨rfl, rfl⟩ : A1 = some ⟨g, 0, none⟩ ∧ c1 = cap' := by simpa using hv
      have hyl : ys.length = L := by rw [← HL.out, ← h1, List.length_map]
      obtain ⟨y, hy⟩ : ∃ y, ys[k]? = some y := ⟨_, List.getElem?_eq_getElem (by omega)⟩
      have c0 : wr.cell? ⟨g, k * 2 + 1, none⟩ = some (.slice y.P y.ss.length y.c) := by
        have := h2.cells (g := g) rfl _ _ (cs_slice hy)
        rwa [Addr.add_mid, Nat.zero_add] at this
      have f0 : ∀ j, wr.frozen? ⟨g, j, none⟩ = false := fun j => h2.frozenAt j
      have hym := h3 y (List.mem_of_getElem? hy)
      have hyb : y.ss.length ≤ 1000000 := HPB.out y.p (by rw [← h1]; exact List.mem_map_of_mem (List.mem_of_getElem? hy))
      have HCL := Lib.hid (cloneS_any y.P y.ss y.c wr hym.lies hyb hym.le)
      have HYB := Lib.hid hyb
      have HHH := Lib.hid (show ys.map Kn.p = ps ∧ wr.ownsRow w.heap.size 66 2 (.slice (some ⟨g, 0, none⟩) L c1) L (eK.cs ys) ∧ (∀ y ∈ ys, y.In wr) ∧ Below w.heap.size w wr ∧ ys[k]? = some y from ⟨h1, h2, h3, h4, hy⟩)
      clear HH h1 h2 h3 h4 hv hyl hy hym hyb
      go_wp2_with fail
      refine HCL.out.mono ?_
      intro e w2 hp
      obtain ⟨v2, rfl, hb2, A2, c2, rfl, hlc2, hmc2, hr2⟩ := OwnPost.s hp (by have := HYB.out; omega)
      obtain ⟨h1, h2, h3, h4, hy⟩ := HHH.out
      have d0 : w2.cell? ⟨g, k * 2 + 1, none⟩ = some (.slice y.P y.ss.length y.c) := by rw [hb2.cell (p := ⟨g, k * 2 + 1, none⟩) hg2]; exact c0
      have d1 : w2.frozen? ⟨g, k * 2 + 1, none⟩ = false := by rw [hb2.frozen (p := ⟨g, k * 2 + 1, none⟩) hg2]; exact f0 _
      have hz : (⟨y.a, A2, c2, y.ss⟩ : Kn).In w2 := ⟨(h3 y (List.mem_of_getElem? hy)).a0, (h3 y (List.mem_of_getElem? hy)).a1, hr2, hlc2, hmc2⟩
      have HN := Lib.hid (show ∃ zs, zs.map Kn.p = ps ∧ (w2.setCell ⟨g, k * 2 + 1, none⟩ (.slice A2 y.ss.length c2)).ownsRow w.heap.size 66 2 (.slice (some ⟨g, 0, none⟩) L c1) L (eK.cs zs) ∧ (∀ z ∈ zs, z.In (w2.setCell ⟨g, k * 2 + 1, none⟩ (.slice A2 y.ss.length c2))) ∧ Below w.heap.size w (w2.setCell ⟨g, k * 2 + 1, none⟩ (.slice A2 y.ss.length c2)) from by
        refine ⟨ys.set k ⟨y.a, A2, c2, y.ss⟩, ?_, ?_, ?_, ?_⟩
        · rw [map_set (z := ⟨y.a, A2, c2, y.ss⟩) hy rfl, h1]
        · rw [cs_set (z := ⟨y.a, A2, c2, y.ss⟩) hy rfl]
          exact ((own_keep h2 hb2).stored _ _).1
        · intro z hz'
          rcases List.mem_or_eq_of_mem_set hz' with hz' | rfl
          · exact kn_stored ((h3 z hz').below hb2) d0 _
          · exact kn_stored hz d0 _
        · exact (h4.trans (hb2.mono h4.size)).setCell hg1 _)
      clear hp hb2 hr2 h1 h2 h3 h4 hy hz HHH
      go_wp2_with fail
      go_roundw
      case rel => exact ⟨k + 1, by go_num, by omega, HN⟩
      case measure => simp [intOf]; omega
    · obtain rfl : k = L := by omega
      go_wp2_with fail
      go_ret
      obtain ⟨ys, h1, h2, h3, h4⟩ := HH.out
      have hyl : ys.length = k := by rw [← HL.out, ← h1, List.length_map]
      obtain ⟨A3, c3, he, hc3, hm3, -, hr3, -⟩ := own_rw (E := eK) h2 (by omega)
      obtain ⟨rfl, -, rfl⟩ : A1 = A3 ∧ k = ys.length ∧ c1 = c3 := by simpa using he
      exact ⟨_, rfl, h4, A1, c1, by rw [HL.out]; rfl, by rw [HL.out]; omega, HMC.out, ys, h1, hr3, h3⟩
end Go.Proofs.YtilneflfeegnfaaGreat.Sn

/-
  The contract of seen.Put. Conditions: the row lies in memory, and has up to 1000 addresses, each of up to 1000 sightings.
-/
set_option linter.unusedSimpArgs false
set_option linter.unusedVariables false
namespace Go.Proofs.YtilneflfeegnfaaGreat.Sn
open Go.RowKit

/-- How far a row goes. -/
def Bd (ps : List Kp) : Prop := ps.length ≤ 1000 ∧ ∀ x ∈ ps, x.ss.length ≤ 1000
/-- The row with one more sighting, and what is told. -/
def ins (ps : List Kp) (a : Int) (s : Sg) : List Kp := ps.take (lo ps a) ++ [⟨a, kp (sg ps a) s⟩] ++ ps.drop (lo ps a + if isAt ps a = true then 1 else 0)
def putC (ps : List Kp) (a : Int) (s : Sg) : Int :=
  if isrc s.f = false then 12 else if s.t < 0 ∨ any (sg ps a) = true ∧ s.t < tk (sg ps a) then 3 else if any (sg ps a) = false ∧ 96 ≤ ps.length then 4 else 0
def putR (ps : List Kp) (a : Int) (s : Sg) : List Kp := if putC ps a s = 0 then ins ps a s else []
def OutPost (w : World) (ys : List Kp) (q : Int) (e : Ending) (w' : World) : Prop := ∃ v, e = .returned (.tuple #[v, .int .i64 q]) ∧ Below w.heap.size w w' ∧ kF ys v w'
theorem out_no (w w' : World) (q : Int) (hb : Below w.heap.size w w') : OutPost w [] q (.returned (.tuple #[.slice none 0 0, .int .i64 q])) w' := ⟨_, rfl, hb, kF_nil _⟩
theorem sg_le {ps : List Kp} {n : Nat} (h : ∀ x ∈ ps, x.ss.length ≤ n) (a : Int) : (sg ps a).length ≤ n := by
  cases hI : isAt ps a with
  | false => rw [sg_no hI]; simp
  | true =>
    obtain ⟨x, hx, _⟩ := isAt_some hI
    rw [sg_at hI hx]
    exact h x (List.mem_of_getElem? hx)
theorem kp_le (ss : List Sg) (s : Sg) : (kp ss s).length ≤ 8 := by
  unfold kp
  rw [List.length_append, List.length_drop, List.length_singleton]
  omega
/-- An address with its sightings, as a value; in a variable. -/
def bF (a : Int) (ss : List Sg) : Value → World → Prop := fun v W => ∃ A c, v = .agg #[.int .u32 a, .slice A ss.length c] ∧ ss.length ≤ c ∧ c ≤ maxLen ∧ Rw eS W A ss
theorem stable_bF (a : Int) (ss : List Sg) : Stable (bF a ss) := fun _ _ _ ⟨A, c, h1, h2, h3, h4⟩ hb => ⟨A, c, h1, h2, h3, h4.below hb⟩
def zF (B : Nat) : Value → World → Prop := fun v W => ∃ b, v = .pointer (some ⟨b, 0, none⟩) ∧ B ≤ b ∧ b < W.heap.size ∧ W.cell? ⟨b, 0, none⟩ = some (.int .u32 0) ∧ W.cell? ⟨b, 1, none⟩ = some (.slice none 0 0) ∧ ∀ j, W.frozen? ⟨b, j, none⟩ = false
theorem stable_zF (B : Nat) : Stable (zF B) := fun v w w' ⟨b, h1, h2, h3, h4, h5, h6⟩ hb => ⟨b, h1, h2, Nat.lt_of_lt_of_le h3 hb.size, by rw [hb.cell (p := ⟨b, 0, none⟩) h3]; exact h4, by rw [hb.cell (p := ⟨b, 1, none⟩) h3]; exact h5, fun j => by rw [hb.frozen (p := ⟨b, j, none⟩) h3]; exact h6 j⟩
/-- A row of one address. -/
theorem k_one (W : World) (x : Kn) (hx : x.In W) : kF [x.p] (.slice (some ⟨W.heap.size, 0, none⟩) 1 1) (W.alloc (.cells #[.int .u32 x.a, .slice x.P x.ss.length x.c] 66)) := by
  refine ⟨_, 1, rfl, by simp, by unfold maxLen; omega, [x], rfl, ⟨by simp, fun q z hq => ?_⟩, fun z hz => ?_⟩
  · match q, hq with
    | 0, hq =>
      simp at hq
      subst hq
      refine ⟨_, rfl, fun j v hv => ?_⟩
      rw [Addr.add_mid]
      change (kl x)[j]? = some v at hv
      show (W.alloc _).cell? ⟨W.heap.size, 0 + (0 * 2 + j), none⟩ = _
      match j, hv with
      | 0, h => simp [kl] at h; subst h; simp
      | 1, h => simp [kl] at h; subst h; simp
      | j + 2, h => simp [kl] at h
    | q + 1, hq => simp at hq
  · simp at hz
    subst hz
    exact hx.below ((Below.refl _ _).alloc (Nat.le_refl _) _)
/-- Parts that come to a row of addresses. -/
def qK (rs : List Kp) : Value → World → Prop := fun v W => ∃ b qs, v = .slice (some ⟨b, 0, none⟩) 3 3 ∧ List.length qs = 3 ∧ Pm eK W b qs ∧ (cat qs 3).map Kn.p = rs ∧ ∀ x ∈ cat qs 3, x.In W
theorem stable_qK (rs : List Kp) : Stable (qK rs) := fun _ _ _ ⟨b, qs, h1, h2, h3, h4, h5⟩ hb => ⟨b, qs, h1, h2, Pm.below h3 hb, h4, fun x hx => (h5 x hx).below hb⟩
theorem qK_three {W : World} {A1 A2 A3 : Option Addr} {c1 c2 c3 : Nat} {r1 r2 r3 : List Kp} (h1 : Ks W A1 r1) (h2 : Ks W A2 r2) (h3 : Ks W A3 r3) : qK (r1 ++ r2 ++ r3) (.slice (some ⟨W.heap.size, 0, none⟩) 3 3) (W.alloc (.cells #[.slice A1 r1.length c1, .slice A2 r2.length c2, .slice A3 r3.length c3] 31)) := by
  obtain ⟨x1, rfl, g1⟩ := h1
  obtain ⟨x2, rfl, g2⟩ := h2
  obtain ⟨x3, rfl, g3⟩ := h3
  refine ⟨_, [⟨A1, x1, c1⟩, ⟨A2, x2, c2⟩, ⟨A3, x3, c3⟩], rfl, rfl, ?_, by simp [cat], fun x hx => ?_⟩
  · have := pm_three W ⟨A1, x1, c1⟩ ⟨A2, x2, c2⟩ ⟨A3, x3, c3⟩ 31 g1.1 g2.1 g3.1
    simpa using this
  · have hb : Below W.heap.size W (W.alloc (.cells #[.slice A1 (x1.map Kn.p).length c1, .slice A2 (x2.map Kn.p).length c2, .slice A3 (x3.map Kn.p).length c3] 31)) := (Below.refl _ _).alloc (Nat.le_refl _) _
    simp [cat] at hx
    rcases hx with hx | hx | hx
    · exact (g1.2 x hx).below hb
    · exact (g2.2 x hx).below hb
    · exact (g3.2 x hx).below hb
theorem concat_k {W : World} {b : Nat} {qs : List (Pt Kn)} {rs : List Kp} (hl : List.length qs = 3) (hp : Pm eK W b qs) (he : (cat qs 3).map Kn.p = rs) (hin : ∀ x ∈ cat qs 3, x.In W) (hn : rs.length ≤ 1000000) : Calls Tryz.prog 84 #[.slice (some ⟨b, 0, none⟩) 3 3] W (KPost W rs) := by
  have hcl : (cat qs 3).length = rs.length := by rw [← he, List.length_map]
  have := concatK_any qs b 3 W hp (by rw [hl]; omega) (by omega)
  rw [hl] at this
  refine this.mono ?_
  rintro e w' ⟨v, rfl, ho, hb⟩
  obtain ⟨A, c, rfl, h1, h2, h3, h4, h5⟩ := own_rw (E := eK) ho (by omega)
  exact ⟨_, rfl, hb, A, c, by rw [hcl], by omega, h2, cat qs 3, he, h4, fun x hx => (hin x hx).below hb⟩
theorem Ks.take {w : World} {A : Option Addr} {ps : List Kp} (h : Ks w A ps) (n : Nat) : Ks w A (ps.take n) := by
  obtain ⟨xs, rfl, h⟩ := h
  exact ⟨xs.take n, by rw [List.map_take], h.1.take n, fun x hx => h.2 x (List.mem_of_mem_take hx)⟩
theorem Ks.rest {w : World} {A : Option Addr} {ps : List Kp} (h : Ks w A ps) {c : Nat} (hc : ps.length ≤ c) (k : Nat) : Ks w (dA 2 A c k) (ps.drop k) := by
  obtain ⟨xs, rfl, h⟩ := h
  exact ⟨xs.drop k, by rw [List.map_drop], h.1.rest (by rw [List.length_map] at hc; exact hc) k, fun x hx => h.2 x (List.mem_of_mem_drop hx)⟩
theorem calls_bx {f : FuncId} {args : Array Value} {W : World} {v : Value} {Φ : List (Value → World → Prop)} {i : Nat} (h : Calls Tryz.prog f args W fun e w' => e = .returned v ∧ Below W.heap.size W w') (hi : fAt Φ i = fx v) : Calls Tryz.prog f args W fun e w' => ∃ v, e = .returned v ∧ Below W.heap.size W w' ∧ fAt Φ i v w' := by
  rw [hi]; exact h.mono fun e w' ⟨h1, h2⟩ => ⟨v, h1, h2, rfl⟩

/-- What holds of the variable that has the new address. -/
def oneX (b : Nat) (a : Int) (A5 : Option Addr) (c5 N : Nat) (KK : List Sg) (W : World) : Prop := b < W.heap.size ∧ W.cell? ⟨b, 0, none⟩ = some (.int .u32 a) ∧ W.cell? ⟨b, 1, none⟩ = some (.slice A5 N c5) ∧ Rw eS W A5 KK
theorem oneX_below {b : Nat} {a : Int} {A5 : Option Addr} {c5 N : Nat} {KK : List Sg} {W W' : World} (h : oneX b a A5 c5 N KK W) (hb : Below W.heap.size W W') : W'.cell? ⟨b, 0, none⟩ = some (.int .u32 a) ∧ W'.cell? ⟨b, 1, none⟩ = some (.slice A5 N c5) ∧ Rw eS W' A5 KK :=
  ⟨by rw [hb.cell (p := ⟨b, 0, none⟩) h.1]; exact h.2.1, by rw [hb.cell (p := ⟨b, 1, none⟩) h.1]; exact h.2.2.1, h.2.2.2.below hb⟩
theorem one_stored {W : World} {b : Nat} {a : Int} {A5 : Option Addr} {c5 : Nat} {ss : List Sg} (hb : b < W.heap.size) (h0 : W.cell? ⟨b, 0, none⟩ = some (.int .u32 0)) (h1 : W.cell? ⟨b, 1, none⟩ = some (.slice none 0 0)) (hr : Rw eS W A5 ss) :
    oneX b a A5 c5 ss.length ss ((W.setCell ⟨b, 0, none⟩ (.int .u32 a)).setCell ⟨b, 1, none⟩ (.slice A5 ss.length c5)) := by
  have h1' : (W.setCell ⟨b, 0, none⟩ (.int .u32 a)).cell? ⟨b, 1, none⟩ = some (.slice none 0 0) := by rw [World.cell?_setCell_other _ _ _ _ (by simp)]; exact h1
  refine ⟨by simpa using hb, ?_, World.cell?_setCell_same _ _ _ h1', rwS_stored ?_ h1' _⟩
  · rw [World.cell?_setCell_other _ _ _ _ (by simp)]
    exact World.cell?_setCell_same _ _ _ h0
  · refine ⟨hr.1, fun q x hq => ?_⟩
    obtain ⟨y, hy, hc⟩ := hr.2 q x hq
    refine ⟨y, hy, fun j v hv => ?_⟩
    have h2 := hc j v hv
    rw [World.cell?_setCell_other]
    · exact h2
    · intro e
      rw [← e, h0] at h2
      injection h2 with h2
      subst h2
      have := List.mem_of_getElem? hv
      simp [eS, sl] at this

set_option maxRecDepth 100000 in
set_option maxHeartbeats 4000000 in
theorem put_any (a : Int) (s : Sg) (A : Option Addr) (xs : List Kp) (cap : Nat) (w : World) (h : Ks w A xs) (hc : xs.length ≤ cap) (hbd : Bd xs) (ha0 : 0 ≤ a) (ha1 : a < 4294967296) :
    Calls Tryz.prog 37 #[.slice A xs.length cap, .int .u32 a, sv s] w (OutPost w (putR xs a s) (putC xs a s)) := by
  have hle := lo_le a xs
  have hln := h.len
  have HBB0 := Lib.hid (show Below w.heap.size w (w.alloc (Sx s)) from (Below.refl _ w).alloc (Nat.le_refl _) _)
  have HM := Lib.hid (src_any s.f (w.alloc (Sx s)))
  cases hY : isrc s.f
  · have HT := Lib.hid (show putR xs a s = [] ∧ putC xs a s = 12 by simp [putR, putC, hY])
    rw [hY] at HM
    rw [HT.out.1, HT.out.2]
    clear hY h HT hbd
    generalize xs.length = L at *
    obtain ⟨sf, x0, x1, x2, x3, x4, x5, st⟩ := s
    simp only [sv, Sx] at HM HBB0 ⊢
    go_enter Tryz.func37, Tryz.ntmps37
    go_wp2_with fail
    refine HM.out.mono ?_
    rintro e w1 ⟨rfl, rfl⟩
    go_wp2_with fail
    go_ret2
    exact out_no w _ 12 HBB0.out
  have HLA := Lib.hid (last_any a A xs cap (w.alloc (Sx s)) (h.below HBB0.out) hc ha0 ha1)
  rw [hY] at HM
  by_cases hR3 : s.t < 0 ∨ any (sg xs a) = true ∧ s.t < tk (sg xs a)
  · have HT := Lib.hid (show putR xs a s = [] ∧ putC xs a s = 3 by
      have e : putC xs a s = 3 := by unfold putC; rw [if_neg (by rw [hY]; simp), if_pos hR3]
      exact ⟨by unfold putR; rw [e]; rfl, e⟩)
    rw [HT.out.1, HT.out.2]
    clear hY h HT hbd
    generalize xs.length = L at *
    by_cases h0 : s.t < 0
    · generalize any (sg xs a) = B1 at *
      generalize tk (sg xs a) = T1 at *
      clear hR3
      obtain ⟨sf, x0, x1, x2, x3, x4, x5, st⟩ := s
      simp only [sv, Sx] at HM HBB0 HLA h0 ⊢
      go_enter Tryz.func37, Tryz.ntmps37
      go_wp2_with fail
      refine HM.out.mono ?_
      rintro e w1 ⟨rfl, rfl⟩
      go_wp2_with fail
      refine HLA.out.mono ?_
      rintro e w1 ⟨rfl, n1, rfl⟩
      go_wp2_with fail
      go_ret2
      exact out_no w _ 3 (bdrewN HBB0.out n1)
    · obtain ⟨hB1, hT1⟩ : any (sg xs a) = true ∧ s.t < tk (sg xs a) := hR3.resolve_left h0
      rw [hB1] at HLA
      generalize tk (sg xs a) = T1 at *
      clear hR3 hB1
      obtain ⟨sf, x0, x1, x2, x3, x4, x5, st⟩ := s
      simp only [sv, Sx] at HM HBB0 HLA h0 hT1 ⊢
      go_enter Tryz.func37, Tryz.ntmps37
      go_wp2_with fail
      refine HM.out.mono ?_
      rintro e w1 ⟨rfl, rfl⟩
      go_wp2_with fail
      refine HLA.out.mono ?_
      rintro e w1 ⟨rfl, n1, rfl⟩
      go_wp2_with fail
      go_ret2
      exact out_no w _ 3 (bdrewN HBB0.out n1)
  by_cases hR4 : any (sg xs a) = false ∧ 96 ≤ xs.length
  · have HT := Lib.hid (show putR xs a s = [] ∧ putC xs a s = 4 by
      have e : putC xs a s = 4 := by unfold putC; rw [if_neg (by rw [hY]; simp), if_neg hR3, if_pos hR4]
      exact ⟨by unfold putR; rw [e]; rfl, e⟩)
    rw [HT.out.1, HT.out.2]
    rw [hR4.1] at HLA
    have h96 : (96 : Int) ≤ xs.length := by have := hR4.2; omega
    have h0 : ¬ s.t < 0 := fun e => hR3 (.inl e)
    clear hY h HT hbd hR3 hR4
    generalize xs.length = L at *
    generalize tk (sg xs a) = T1 at *
    obtain ⟨sf, x0, x1, x2, x3, x4, x5, st⟩ := s
    simp only [sv, Sx] at HM HBB0 HLA h0 ⊢
    go_enter Tryz.func37, Tryz.ntmps37
    go_wp2_with fail
    refine HM.out.mono ?_
    rintro e w1 ⟨rfl, rfl⟩
    go_wp2_with fail
    refine HLA.out.mono ?_
    rintro e w1 ⟨rfl, n1, rfl⟩
    go_wp2_with fail
    go_ret2
    exact out_no w _ 4 (bdrewN HBB0.out n1)
  have HT := Lib.hid (show putR xs a s = ins xs a s ∧ putC xs a s = 0 by
    have e : putC xs a s = 0 := by unfold putC; rw [if_neg (by rw [hY]; simp), if_neg hR3, if_neg hR4]
    exact ⟨by unfold putR; rw [e]; rfl, e⟩)
  rw [HT.out.1, HT.out.2]
  have h0 : ¬ s.t < 0 := fun e => hR3 (.inl e)
  have h1 : any (sg xs a) = true → ¬ s.t < tk (sg xs a) := fun e1 e2 => hR3 (.inr ⟨e1, e2⟩)
  have h2 : any (sg xs a) = false → ¬ (96 : Int) ≤ xs.length := fun e1 e2 => hR4 ⟨e1, by omega⟩
  have HBX0 := Lib.hid (rw_one w s)
  have HR := Lib.hid h
  have HPL := Lib.hid fun n => place_any a A xs cap ((w.alloc (Sx s)).drewN n) ((h.below HBB0.out).drewN n) ha0 ha1
  obtain ⟨R, hRR⟩ : ∃ R, ins xs a s = R := ⟨_, rfl⟩
  obtain ⟨G, hG⟩ : ∃ G, sg xs a = G := ⟨_, rfl⟩
  have hGl : G.length ≤ 1000 := by rw [← hG]; exact sg_le hbd.2 a
  have HKK := Lib.hid (kp_le G s)
  have HKP := Lib.hid fun W A3 c3 (h3 : Rw eS W A3 G) (hc3 : G.length ≤ c3) => keep_any s A3 G c3 W h3 hc3 (by omega)
  have HOF := Lib.hid (show ∀ W, Below w.heap.size w W → Calls Tryz.prog 43 #[.slice A xs.length cap, .int .u32 a] W (SPost W G) from fun W hW => by
    have := of_any a A xs cap W (h.below hW) hc (fun x hx => Nat.le_trans (hbd.2 x hx) (by omega)) ha0 ha1
    rw [hG] at this
    exact this)
  have HC1 := Lib.hid (show ∀ W, Below w.heap.size w W → Calls Tryz.prog 85 #[.slice A (lo xs a) cap] W (KPost W (xs.take (lo xs a))) from fun W hW => by
    have := copied_any A (xs.take (lo xs a)) cap W ((h.below hW).take _) (by rw [List.length_take]; omega) (by rw [List.length_take]; have := hbd.1; omega) (fun x hx => Nat.le_trans (hbd.2 x (List.mem_of_mem_take hx)) (by omega))
    rw [List.length_take, Nat.min_eq_left hle] at this
    exact this)
  have HC2 := Lib.hid (show ∀ D W, Below w.heap.size w W → Calls Tryz.prog 85 #[.slice (dA 2 A cap D) (xs.length - D) (cap - D)] W (KPost W (xs.drop D)) from fun D W hW => by
    have := copied_any (dA 2 A cap D) (xs.drop D) (cap - D) W ((h.below hW).rest hc D) (by rw [List.length_drop]; omega) (by rw [List.length_drop]; have := hbd.1; omega) (fun x hx => Nat.le_trans (hbd.2 x (List.mem_of_mem_drop hx)) (by omega))
    rw [List.length_drop] at this
    exact this)
  have HSH := Lib.hid (fun W => slK_h A xs.length cap (lo xs a) (by omega) W)
  have HSL := fun W => slK_l A xs.length cap (lo xs a) hle hc W
  have hL9 := hbd.1
  have HQ := Lib.hid (show ∀ (D : Nat), xs.take (lo xs a) ++ [⟨a, kp G s⟩] ++ xs.drop D = R → ∀ W A3 A5 A7 c3 c5 c7, Ks W A3 (xs.take (lo xs a)) → Ks W A5 [⟨a, kp G s⟩] → Ks W A7 (xs.drop D) → qK R (.slice (some ⟨W.heap.size, 0, none⟩) 3 3) (W.alloc (.cells #[.slice A3 (xs.take (lo xs a)).length c3, .slice A5 [(⟨a, kp G s⟩ : Kp)].length c5, .slice A7 (xs.drop D).length c7] 31)) from fun D hD W A3 A5 A7 c3 c5 c7 g3 g5 g7 => by
    rw [← hD]
    exact qK_three g3 g5 g7)
  have HA := Lib.hid (show (0 ≤ a ∧ a < 4294967296) from ⟨ha0, ha1⟩)
  have HRL := Lib.hid (show R.length ≤ 1000000 by
    rw [← hRR]
    unfold ins
    rw [List.length_append, List.length_append, List.length_take, List.length_drop, List.length_singleton]
    omega)
  have HD := Lib.hid (show xs.take (lo xs a) ++ [⟨a, kp G s⟩] ++ xs.drop (lo xs a + if isAt xs a = true then 1 else 0) = R by rw [← hRR, ← hG]; rfl)
  rw [hG] at HLA h1 h2
  rw [hRR]
  have hI : isAt xs a = true → lo xs a < xs.length := fun e => by obtain ⟨_, _, _, e⟩ := isAt_some e; exact e
  have HSL1 := fun (e : isAt xs a = true) W => slK_l A xs.length cap (lo xs a + 1) (hI e) hc W
  clear hY h HT hbd hR3 hR4 hRR hG
  generalize isAt xs a = I at *
  cases I
  · replace HQ := Lib.hid (HQ.out _ HD.out)
    replace HC2 := Lib.hid (HC2.out (lo xs a))
    simp only [Bool.false_eq_true, if_false, if_true, Nat.add_zero] at HQ HPL HD
    generalize xs.take (lo xs a) = T1 at *
    generalize xs.drop (lo xs a) = T2 at *
    generalize xs.length = L at *
    generalize lo xs a = P at *
    clear hI HSL1
    generalize any G = B1 at *
    generalize tk G = K1 at *
    obtain ⟨sf, x0, x1, x2, x3, x4, x5, st⟩ := s
    simp only [sv, Sx] at HM HBB0 HLA HPL HBX0 h0 h1 HKP HKK HQ ⊢
    cases B1
    · replace h2 := h2 rfl
      clear h1
      go_enter Tryz.func37, Tryz.ntmps37
      go_wp2_with fail
      refine HM.out.mono ?_
      rintro e w1 ⟨rfl, rfl⟩
      go_wp2_with fail
      refine HLA.out.mono ?_
      rintro e w1 ⟨rfl, n1, rfl⟩
      go_wp2_with fail
      refine (HPL.out n1).mono ?_
      rintro e w2 ⟨rfl, n2, hw2⟩
      have HB2 := Lib.hid (show Below w.heap.size w w2 from hw2 ▸ bdrewN (bdrewN HBB0.out n1) n2)
      have HBX := Lib.hid (show Rw eS w2 (some ⟨w.heap.size, 0, none⟩) [⟨sf, x0, x1, x2, x3, x4, x5, st⟩] from hw2 ▸ (HBX0.out.drewN n1).drewN n2)
      clear hw2 HM HLA HPL HBX0
      go_wp2_with fail
      refine wp_region_below_end (by simp) [fx (.int .u32 a), fx (.slice A L cap), fx (.int .u32 a), sF G, fx (.agg #[.int .i64 sf, .int .u8 x0, .int .u8 x1, .int .u8 x2, .int .u8 x3, .int .u8 x4, .int .u8 x5, .int .i64 st]), sF (kp G ⟨sf, x0, x1, x2, x3, x4, x5, st⟩), bF a (kp G ⟨sf, x0, x1, x2, x3, x4, x5, st⟩), zF w.heap.size]
        (by kernel_rfl) (by kernel_rfl) (by kernel_rfl) (by kernel_rfl) ?_ ?_ ?_
      · simp only [List.mem_cons, List.not_mem_nil, or_false]
        rintro φ (rfl | rfl | rfl | rfl | rfl | rfl | rfl | rfl)
        all_goals first | exact stable_fx _ | exact stable_fr _ _ | exact stable_sF _ | exact stable_bF _ _ | exact stable_zF _
      · refine OgSteps.cons ?_ (OgSteps.cons ?_ (OgSteps.cons ?_ (OgSteps.cons ?_ (OgSteps.cons ?_ (OgSteps.cons ?_ (OgSteps.cons ?_ (OgSteps.cons ?_ (OgSteps.nil))))))))
        · refine OgStep.pure ?_ ?_
          · rfl
          intro u W hS hp
          refine ⟨.int .u32 a, ?_, rfl⟩
          simp only [ogMk, Act.put, List.setIfInBounds_toArray, List.set_cons_zero, List.set_cons_succ, Nat.zero_add, Nat.reduceAdd]
          simp [execOp, Act.eval, go_sem]
        · refine OgStep.pure ?_ ?_
          · rfl
          intro u W hS hp
          refine ⟨.slice A L cap, ?_, rfl⟩
          simp only [ogMk, Act.put, List.setIfInBounds_toArray, List.set_cons_zero, List.set_cons_succ, Nat.zero_add, Nat.reduceAdd]
          simp [execOp, Act.eval, go_sem]
        · refine OgStep.pure ?_ ?_
          · rfl
          intro u W hS hp
          refine ⟨.int .u32 a, ?_, rfl⟩
          simp only [ogMk, Act.put, List.setIfInBounds_toArray, List.set_cons_zero, List.set_cons_succ, Nat.zero_add, Nat.reduceAdd]
          simp [execOp, Act.eval, go_sem]
        · refine OgStep.calls ?_ ?_
          · rfl
          intro u W hS hp
          have h1 : u 1 = .slice A L cap := hp ⟨1, .data⟩ (by simp) rfl
          have h2 : u 2 = .int .u32 a := hp ⟨2, .data⟩ (by simp) rfl
          refine ⟨43, #[.slice A L cap, .int .u32 a], ?_, calls_sF (HOF.out W (HB2.out.trans (hS.mono HB2.out.size))) rfl⟩
          simp only [ogMk, Act.put, List.setIfInBounds_toArray, List.set_cons_zero, List.set_cons_succ, Nat.zero_add, Nat.reduceAdd]
          simp [execOp, Act.eval, go_sem, h1, h2]
        · refine OgStep.pure ?_ ?_
          · rfl
          intro u W hS hp
          obtain ⟨R0, R1, R2, R3, R4, R5, R6, R7⟩ := s_c8 (HBX.out.below hS)
          refine ⟨.agg #[.int .i64 sf, .int .u8 x0, .int .u8 x1, .int .u8 x2, .int .u8 x3, .int .u8 x4, .int .u8 x5, .int .i64 st], ?_, rfl⟩
          simp only [ogMk, Act.put, List.setIfInBounds_toArray, List.set_cons_zero, List.set_cons_succ, Nat.zero_add, Nat.reduceAdd]
          simp [execOp, Act.eval, go_sem, R0, R1, R2, R3, R4, R5, R6, R7]
        · refine OgStep.calls ?_ ?_
          · rfl
          intro u W hS hp
          obtain ⟨A3, c3, h3, hc3, _, hR3⟩ : sF G (u 3) W := hp ⟨3, .data⟩ (by simp) rfl
          have h4 : u 4 = .agg #[.int .i64 sf, .int .u8 x0, .int .u8 x1, .int .u8 x2, .int .u8 x3, .int .u8 x4, .int .u8 x5, .int .i64 st] := hp ⟨4, .data⟩ (by simp) rfl
          refine ⟨83, #[.slice A3 G.length c3, .agg #[.int .i64 sf, .int .u8 x0, .int .u8 x1, .int .u8 x2, .int .u8 x3, .int .u8 x4, .int .u8 x5, .int .i64 st]], ?_, calls_sF (HKP.out W A3 c3 hR3 hc3) rfl⟩
          simp only [ogMk, Act.put, List.setIfInBounds_toArray, List.set_cons_zero, List.set_cons_succ, Nat.zero_add, Nat.reduceAdd]
          rw [h3, h4]
          simp [execOp, Act.eval, go_sem]
        · refine OgStep.pure ?_ ?_
          · rfl
          intro u W hS hp
          obtain ⟨A5, c5, h5, hc5, hm5, hR5⟩ : sF (kp G ⟨sf, x0, x1, x2, x3, x4, x5, st⟩) (u 5) W := hp ⟨5, .data⟩ (by simp) rfl
          have h0 : u 0 = .int .u32 a := hp ⟨0, .data⟩ (by simp) rfl
          refine ⟨.agg #[.int .u32 a, .slice A5 (kp G ⟨sf, x0, x1, x2, x3, x4, x5, st⟩).length c5], ?_, ⟨A5, c5, rfl, hc5, hm5, hR5⟩⟩
          simp only [ogMk, Act.put, List.setIfInBounds_toArray, List.set_cons_zero, List.set_cons_succ, Nat.zero_add, Nat.reduceAdd]
          rw [h0, h5]
          simp [execOp, Act.eval, go_sem]
        · refine OgStep.made ?_ ?_
          · rfl
          intro u W hS hp
          refine ⟨.pointer (some ⟨W.heap.size, 0, none⟩), _, ?_, (Below.refl _ W).alloc (Nat.le_refl _) (.cells #[.int .u32 0, .slice none 0 0] 66), ⟨W.heap.size, rfl, Nat.le_trans HB2.out.size hS.size, by simp, by simp, by simp, fun j => by simp⟩⟩
          simp only [ogMk, Act.put, List.setIfInBounds_toArray, List.set_cons_zero, List.set_cons_succ, Nat.zero_add, Nat.reduceAdd]
          simp [execOp, Act.eval, go_sem]
      · intro u W hS hF
        have hF' := hF
        have e0 : u 0 = .int .u32 a := hF 0 (by decide)
        have e1 : u 1 = .slice A L cap := hF 1 (by decide)
        have e2 : u 2 = .int .u32 a := hF 2 (by decide)
        have e4 : u 4 = .agg #[.int .i64 sf, .int .u8 x0, .int .u8 x1, .int .u8 x2, .int .u8 x3, .int .u8 x4, .int .u8 x5, .int .i64 st] := hF 4 (by decide)
        simp only [ogMk, Act.put, List.setIfInBounds_toArray, List.set_cons_zero, List.set_cons_succ, Nat.zero_add, Nat.reduceAdd]
        rw [e0, e1, e2, e4]
        clear e0 e1 e2 e4 hF
        obtain ⟨A5, c5, e6, hc5, hm5, hR5⟩ : bF a (kp G ⟨sf, x0, x1, x2, x3, x4, x5, st⟩) (u 6) W := hF' 6 (by decide)
        obtain ⟨b, e7, hb1, hb2, hb3, hb4, hb5⟩ : zF w.heap.size (u 7) W := hF' 7 (by decide)
        obtain ⟨A3, c3, e3, _⟩ : sF G (u 3) W := hF' 3 (by decide)
        obtain ⟨A4, c4, e5, _⟩ : sF (kp G ⟨sf, x0, x1, x2, x3, x4, x5, st⟩) (u 5) W := hF' 5 (by decide)
        rw [e3, e5, e6, e7]
        have HW := Lib.hid (HB2.out.trans (hS.mono HB2.out.size))
        clear hF' e3 e5 e6 e7
        have hf0 := hb5 0
        have hf1 := hb5 1
        have HB4 := Lib.hid (show Below w.heap.size w ((W.setCell ⟨b, 0, none⟩ (.int .u32 a)).setCell ⟨b, 1, none⟩ (.slice A5 (kp G ⟨sf, x0, x1, x2, x3, x4, x5, st⟩).length c5)) from (HW.out.setCell hb1 _).setCell hb1 _)
        have HX := Lib.hid (show oneX b a A5 c5 (kp G ⟨sf, x0, x1, x2, x3, x4, x5, st⟩).length (kp G ⟨sf, x0, x1, x2, x3, x4, x5, st⟩) ((W.setCell ⟨b, 0, none⟩ (.int .u32 a)).setCell ⟨b, 1, none⟩ (.slice A5 (kp G ⟨sf, x0, x1, x2, x3, x4, x5, st⟩).length c5)) from one_stored hb2 hb3 hb4 hR5)
        have HK1 := Lib.hid fun W (hW : Rw eS W A5 (kp G ⟨sf, x0, x1, x2, x3, x4, x5, st⟩)) => k_one W ⟨a, A5, c5, kp G ⟨sf, x0, x1, x2, x3, x4, x5, st⟩⟩ ⟨HA.out.1, HA.out.2, hW, hc5, hm5⟩
        clear hR5 hS hb5 hm5 hc5 HBX
        go_wp2_with fail
        refine wp_region_below [fx (.slice A L cap), fx (.int .i64 (P : Int)), fx (.slice A P cap), kF T1, fx (.agg #[.int .u32 a, .slice A5 (kp G ⟨sf, x0, x1, x2, x3, x4, x5, st⟩).length c5]), kF [⟨a, (kp G ⟨sf, x0, x1, x2, x3, x4, x5, st⟩)⟩], fx (.slice (dA 2 A cap (P)) (L - (P)) (cap - (P))), kF T2, qK R, kF R, kF R, fx (.int .i64 0)]
          (by kernel_rfl) (by kernel_rfl) (by kernel_rfl) ?_ ?_ ?_
        · simp only [List.mem_cons, List.not_mem_nil, or_false]
          rintro φ (rfl | rfl | rfl | rfl | rfl | rfl | rfl | rfl | rfl | rfl | rfl | rfl)
          all_goals first | exact stable_fx _ | exact stable_fr _ _ | exact stable_kF _ | exact stable_qK _
        · refine OgSteps.cons ?_ (OgSteps.cons ?_ (OgSteps.cons ?_ (OgSteps.cons ?_ (OgSteps.cons ?_ (OgSteps.cons ?_ (OgSteps.cons ?_ (OgSteps.cons ?_ (OgSteps.cons ?_ (OgSteps.cons ?_ (OgSteps.cons ?_ (OgSteps.cons ?_ (OgSteps.nil))))))))))))
          · refine OgStep.pure ?_ ?_
            · rfl
            intro u W hS hp
            refine ⟨.slice A L cap, ?_, rfl⟩
            simp only [ogMk, Act.put, List.setIfInBounds_toArray, List.set_cons_zero, List.set_cons_succ, Nat.zero_add, Nat.reduceAdd]
            simp [execOp, Act.eval, go_sem]
          · refine OgStep.pure ?_ ?_
            · rfl
            intro u W hS hp
            refine ⟨.int .i64 (P : Int), ?_, rfl⟩
            simp only [ogMk, Act.put, List.setIfInBounds_toArray, List.set_cons_zero, List.set_cons_succ, Nat.zero_add, Nat.reduceAdd]
            simp [execOp, Act.eval, go_sem]
          · refine OgStep.pure ?_ ?_
            · rfl
            intro u W hS hp
            have h0 : u 0 = .slice A L cap := hp ⟨0, .data⟩ (by simp) rfl
            have h1 : u 1 = .int .i64 (P : Int) := hp ⟨1, .data⟩ (by simp) rfl
            have R := HSH.out W
            refine ⟨.slice A P cap, ?_, rfl⟩
            simp only [ogMk, Act.put, List.setIfInBounds_toArray, List.set_cons_zero, List.set_cons_succ, Nat.zero_add, Nat.reduceAdd]
            simp [execOp, Act.eval, go_sem, h0, h1, R]
          · refine OgStep.calls ?_ ?_
            · rfl
            intro u W hS hp
            have h2 : u 2 = .slice A P cap := hp ⟨2, .data⟩ (by simp) rfl
            refine ⟨85, #[.slice A P cap], ?_, calls_kF (HC1.out W (HB4.out.trans (hS.mono HB4.out.size))) rfl⟩
            simp only [ogMk, Act.put, List.setIfInBounds_toArray, List.set_cons_zero, List.set_cons_succ, Nat.zero_add, Nat.reduceAdd]
            simp [execOp, Act.eval, go_sem, h2]
          · refine OgStep.pure ?_ ?_
            · rfl
            intro u W hS hp
            have R0 := (oneX_below HX.out hS).1
            have R1 := (oneX_below HX.out hS).2.1
            refine ⟨.agg #[.int .u32 a, .slice A5 (kp G ⟨sf, x0, x1, x2, x3, x4, x5, st⟩).length c5], ?_, rfl⟩
            simp only [ogMk, Act.put, List.setIfInBounds_toArray, List.set_cons_zero, List.set_cons_succ, Nat.zero_add, Nat.reduceAdd]
            simp [execOp, Act.eval, go_sem, R0, R1]
          · refine OgStep.made ?_ ?_
            · rfl
            intro u W hS hp
            have h4 : u 4 = .agg #[.int .u32 a, .slice A5 (kp G ⟨sf, x0, x1, x2, x3, x4, x5, st⟩).length c5] := hp ⟨4, .data⟩ (by simp) rfl
            refine ⟨.slice (some ⟨W.heap.size, 0, none⟩) 1 1, _, ?_, (Below.refl _ W).alloc (Nat.le_refl _) _, HK1.out W (oneX_below HX.out hS).2.2⟩
            simp only [ogMk, Act.put, List.setIfInBounds_toArray, List.set_cons_zero, List.set_cons_succ, Nat.zero_add, Nat.reduceAdd]
            simp [execOp, Act.eval, go_sem, h4]
          · refine OgStep.pure ?_ ?_
            · rfl
            intro u W hS hp
            refine ⟨.slice (dA 2 A cap (P)) (L - (P)) (cap - (P)), ?_, rfl⟩
            simp only [ogMk, Act.put, List.setIfInBounds_toArray, List.set_cons_zero, List.set_cons_succ, Nat.zero_add, Nat.reduceAdd]
            simp [execOp, Act.eval, go_sem]
          · refine OgStep.calls ?_ ?_
            · rfl
            intro u W hS hp
            have h6 : u 6 = .slice (dA 2 A cap (P)) (L - (P)) (cap - (P)) := hp ⟨6, .data⟩ (by simp) rfl
            refine ⟨85, #[.slice (dA 2 A cap (P)) (L - (P)) (cap - (P))], ?_, calls_kF (HC2.out W (HB4.out.trans (hS.mono HB4.out.size))) rfl⟩
            simp only [ogMk, Act.put, List.setIfInBounds_toArray, List.set_cons_zero, List.set_cons_succ, Nat.zero_add, Nat.reduceAdd]
            simp [execOp, Act.eval, go_sem, h6]
          · refine OgStep.made ?_ ?_
            · rfl
            intro u W hS hp
            obtain ⟨A3, c3, h3, _, _, hR3⟩ : kF T1 (u 3) W := hp ⟨3, .data⟩ (by simp) rfl
            obtain ⟨A5, c5, h5, _, _, hR5⟩ : kF [⟨a, (kp G ⟨sf, x0, x1, x2, x3, x4, x5, st⟩)⟩] (u 5) W := hp ⟨5, .data⟩ (by simp) rfl
            obtain ⟨A7, c7, h7, _, _, hR7⟩ : kF T2 (u 7) W := hp ⟨7, .data⟩ (by simp) rfl
            refine ⟨.slice (some ⟨W.heap.size, 0, none⟩) 3 3, _, ?_, (Below.refl _ W).alloc (Nat.le_refl _) _, HQ.out W A3 A5 A7 c3 c5 c7 hR3 hR5 hR7⟩
            simp only [ogMk, Act.put, List.setIfInBounds_toArray, List.set_cons_zero, List.set_cons_succ, Nat.zero_add, Nat.reduceAdd]
            rw [h3, h5, h7]
            simp [execOp, Act.eval, go_sem]
          · refine OgStep.calls ?_ ?_
            · rfl
            intro u W hS hp
            obtain ⟨b, qs, e8, hl8, hPm, hct, hin⟩ : qK R (u 8) W := hp ⟨8, .data⟩ (by simp) rfl
            refine ⟨84, #[.slice (some ⟨b, 0, none⟩) 3 3], ?_, calls_kF (concat_k hl8 hPm hct hin HRL.out) rfl⟩
            simp only [ogMk, Act.put, List.setIfInBounds_toArray, List.set_cons_zero, List.set_cons_succ, Nat.zero_add, Nat.reduceAdd]
            rw [e8]
            simp [execOp, Act.eval, go_sem]
          · refine OgStep.pure ?_ ?_
            · rfl
            intro u W hS hp
            have h9 : kF R (u 9) W := hp ⟨9, .data⟩ (by simp) rfl
            refine ⟨u 9, ?_, h9⟩
            simp only [ogMk, Act.put, List.setIfInBounds_toArray, List.set_cons_zero, List.set_cons_succ, Nat.zero_add, Nat.reduceAdd]
            simp [execOp, Act.eval, go_sem]
          · refine OgStep.pure ?_ ?_
            · rfl
            intro u W hS hp
            refine ⟨.int .i64 0, ?_, rfl⟩
            simp only [ogMk, Act.put, List.setIfInBounds_toArray, List.set_cons_zero, List.set_cons_succ, Nat.zero_add, Nat.reduceAdd]
            simp [execOp, Act.eval, go_sem]
        · intro u W hS hF'
          have hF10 : kF R (u 10) W := hF' 10 (by decide)
          have hF := hF'
          have e0 : u 0 = .slice A L cap := hF 0 (by decide)
          have e1 : u 1 = .int .i64 (P : Int) := hF 1 (by decide)
          have e2 : u 2 = .slice A P cap := hF 2 (by decide)
          have e4 : u 4 = .agg #[.int .u32 a, .slice A5 (kp G ⟨sf, x0, x1, x2, x3, x4, x5, st⟩).length c5] := hF 4 (by decide)
          have e6 : u 6 = .slice (dA 2 A cap (P)) (L - (P)) (cap - (P)) := hF 6 (by decide)
          have e11 : u 11 = .int .i64 0 := hF 11 (by decide)
          simp only [ogMk, Act.put, List.setIfInBounds_toArray, List.set_cons_zero, List.set_cons_succ, Nat.zero_add, Nat.reduceAdd]
          rw [e0, e1, e2, e4, e6, e11]
          clear hF' e0 e1 e2 e4 e6 e11 hF
          go_wp2_with fail
          go_ret2
          exact ⟨_, rfl, HB4.out.trans (hS.mono HB4.out.size), hF10⟩
    · replace h1 := h1 rfl
      clear h2
      go_enter Tryz.func37, Tryz.ntmps37
      go_wp2_with fail
      refine HM.out.mono ?_
      rintro e w1 ⟨rfl, rfl⟩
      go_wp2_with fail
      refine HLA.out.mono ?_
      rintro e w1 ⟨rfl, n1, rfl⟩
      go_wp2_with fail
      refine (HPL.out n1).mono ?_
      rintro e w2 ⟨rfl, n2, hw2⟩
      have HB2 := Lib.hid (show Below w.heap.size w w2 from hw2 ▸ bdrewN (bdrewN HBB0.out n1) n2)
      have HBX := Lib.hid (show Rw eS w2 (some ⟨w.heap.size, 0, none⟩) [⟨sf, x0, x1, x2, x3, x4, x5, st⟩] from hw2 ▸ (HBX0.out.drewN n1).drewN n2)
      clear hw2 HM HLA HPL HBX0
      go_wp2_with fail
      refine wp_region_below_end (by simp) [fx (.int .u32 a), fx (.slice A L cap), fx (.int .u32 a), sF G, fx (.agg #[.int .i64 sf, .int .u8 x0, .int .u8 x1, .int .u8 x2, .int .u8 x3, .int .u8 x4, .int .u8 x5, .int .i64 st]), sF (kp G ⟨sf, x0, x1, x2, x3, x4, x5, st⟩), bF a (kp G ⟨sf, x0, x1, x2, x3, x4, x5, st⟩), zF w.heap.size]
        (by kernel_rfl) (by kernel_rfl) (by kernel_rfl) (by kernel_rfl) ?_ ?_ ?_
      · simp only [List.mem_cons, List.not_mem_nil, or_false]
        rintro φ (rfl | rfl | rfl | rfl | rfl | rfl | rfl | rfl)
        all_goals first | exact stable_fx _ | exact stable_fr _ _ | exact stable_sF _ | exact stable_bF _ _ | exact stable_zF _
      · refine OgSteps.cons ?_ (OgSteps.cons ?_ (OgSteps.cons ?_ (OgSteps.cons ?_ (OgSteps.cons ?_ (OgSteps.cons ?_ (OgSteps.cons ?_ (OgSteps.cons ?_ (OgSteps.nil))))))))
        · refine OgStep.pure ?_ ?_
          · rfl
          intro u W hS hp
          refine ⟨.int .u32 a, ?_, rfl⟩
          simp only [ogMk, Act.put, List.setIfInBounds_toArray, List.set_cons_zero, List.set_cons_succ, Nat.zero_add, Nat.reduceAdd]
          simp [execOp, Act.eval, go_sem]
        · refine OgStep.pure ?_ ?_
          · rfl
          intro u W hS hp
          refine ⟨.slice A L cap, ?_, rfl⟩
          simp only [ogMk, Act.put, List.setIfInBounds_toArray, List.set_cons_zero, List.set_cons_succ, Nat.zero_add, Nat.reduceAdd]
          simp [execOp, Act.eval, go_sem]
        · refine OgStep.pure ?_ ?_
          · rfl
          intro u W hS hp
          refine ⟨.int .u32 a, ?_, rfl⟩
          simp only [ogMk, Act.put, List.setIfInBounds_toArray, List.set_cons_zero, List.set_cons_succ, Nat.zero_add, Nat.reduceAdd]
          simp [execOp, Act.eval, go_sem]
        · refine OgStep.calls ?_ ?_
          · rfl
          intro u W hS hp
          have h1 : u 1 = .slice A L cap := hp ⟨1, .data⟩ (by simp) rfl
          have h2 : u 2 = .int .u32 a := hp ⟨2, .data⟩ (by simp) rfl
          refine ⟨43, #[.slice A L cap, .int .u32 a], ?_, calls_sF (HOF.out W (HB2.out.trans (hS.mono HB2.out.size))) rfl⟩
          simp only [ogMk, Act.put, List.setIfInBounds_toArray, List.set_cons_zero, List.set_cons_succ, Nat.zero_add, Nat.reduceAdd]
          simp [execOp, Act.eval, go_sem, h1, h2]
        · refine OgStep.pure ?_ ?_
          · rfl
          intro u W hS hp
          obtain ⟨R0, R1, R2, R3, R4, R5, R6, R7⟩ := s_c8 (HBX.out.below hS)
          refine ⟨.agg #[.int .i64 sf, .int .u8 x0, .int .u8 x1, .int .u8 x2, .int .u8 x3, .int .u8 x4, .int .u8 x5, .int .i64 st], ?_, rfl⟩
          simp only [ogMk, Act.put, List.setIfInBounds_toArray, List.set_cons_zero, List.set_cons_succ, Nat.zero_add, Nat.reduceAdd]
          simp [execOp, Act.eval, go_sem, R0, R1, R2, R3, R4, R5, R6, R7]
        · refine OgStep.calls ?_ ?_
          · rfl
          intro u W hS hp
          obtain ⟨A3, c3, h3, hc3, _, hR3⟩ : sF G (u 3) W := hp ⟨3, .data⟩ (by simp) rfl
          have h4 : u 4 = .agg #[.int .i64 sf, .int .u8 x0, .int .u8 x1, .int .u8 x2, .int .u8 x3, .int .u8 x4, .int .u8 x5, .int .i64 st] := hp ⟨4, .data⟩ (by simp) rfl
          refine ⟨83, #[.slice A3 G.length c3, .agg #[.int .i64 sf, .int .u8 x0, .int .u8 x1, .int .u8 x2, .int .u8 x3, .int .u8 x4, .int .u8 x5, .int .i64 st]], ?_, calls_sF (HKP.out W A3 c3 hR3 hc3) rfl⟩
          simp only [ogMk, Act.put, List.setIfInBounds_toArray, List.set_cons_zero, List.set_cons_succ, Nat.zero_add, Nat.reduceAdd]
          rw [h3, h4]
          simp [execOp, Act.eval, go_sem]
        · refine OgStep.pure ?_ ?_
          · rfl
          intro u W hS hp
          obtain ⟨A5, c5, h5, hc5, hm5, hR5⟩ : sF (kp G ⟨sf, x0, x1, x2, x3, x4, x5, st⟩) (u 5) W := hp ⟨5, .data⟩ (by simp) rfl
          have h0 : u 0 = .int .u32 a := hp ⟨0, .data⟩ (by simp) rfl
          refine ⟨.agg #[.int .u32 a, .slice A5 (kp G ⟨sf, x0, x1, x2, x3, x4, x5, st⟩).length c5], ?_, ⟨A5, c5, rfl, hc5, hm5, hR5⟩⟩
          simp only [ogMk, Act.put, List.setIfInBounds_toArray, List.set_cons_zero, List.set_cons_succ, Nat.zero_add, Nat.reduceAdd]
          rw [h0, h5]
          simp [execOp, Act.eval, go_sem]
        · refine OgStep.made ?_ ?_
          · rfl
          intro u W hS hp
          refine ⟨.pointer (some ⟨W.heap.size, 0, none⟩), _, ?_, (Below.refl _ W).alloc (Nat.le_refl _) (.cells #[.int .u32 0, .slice none 0 0] 66), ⟨W.heap.size, rfl, Nat.le_trans HB2.out.size hS.size, by simp, by simp, by simp, fun j => by simp⟩⟩
          simp only [ogMk, Act.put, List.setIfInBounds_toArray, List.set_cons_zero, List.set_cons_succ, Nat.zero_add, Nat.reduceAdd]
          simp [execOp, Act.eval, go_sem]
      · intro u W hS hF
        have hF' := hF
        have e0 : u 0 = .int .u32 a := hF 0 (by decide)
        have e1 : u 1 = .slice A L cap := hF 1 (by decide)
        have e2 : u 2 = .int .u32 a := hF 2 (by decide)
        have e4 : u 4 = .agg #[.int .i64 sf, .int .u8 x0, .int .u8 x1, .int .u8 x2, .int .u8 x3, .int .u8 x4, .int .u8 x5, .int .i64 st] := hF 4 (by decide)
        simp only [ogMk, Act.put, List.setIfInBounds_toArray, List.set_cons_zero, List.set_cons_succ, Nat.zero_add, Nat.reduceAdd]
        rw [e0, e1, e2, e4]
        clear e0 e1 e2 e4 hF
        obtain ⟨A5, c5, e6, hc5, hm5, hR5⟩ : bF a (kp G ⟨sf, x0, x1, x2, x3, x4, x5, st⟩) (u 6) W := hF' 6 (by decide)
        obtain ⟨b, e7, hb1, hb2, hb3, hb4, hb5⟩ : zF w.heap.size (u 7) W := hF' 7 (by decide)
        obtain ⟨A3, c3, e3, _⟩ : sF G (u 3) W := hF' 3 (by decide)
        obtain ⟨A4, c4, e5, _⟩ : sF (kp G ⟨sf, x0, x1, x2, x3, x4, x5, st⟩) (u 5) W := hF' 5 (by decide)
        rw [e3, e5, e6, e7]
        have HW := Lib.hid (HB2.out.trans (hS.mono HB2.out.size))
        clear hF' e3 e5 e6 e7
        have hf0 := hb5 0
        have hf1 := hb5 1
        have HB4 := Lib.hid (show Below w.heap.size w ((W.setCell ⟨b, 0, none⟩ (.int .u32 a)).setCell ⟨b, 1, none⟩ (.slice A5 (kp G ⟨sf, x0, x1, x2, x3, x4, x5, st⟩).length c5)) from (HW.out.setCell hb1 _).setCell hb1 _)
        have HX := Lib.hid (show oneX b a A5 c5 (kp G ⟨sf, x0, x1, x2, x3, x4, x5, st⟩).length (kp G ⟨sf, x0, x1, x2, x3, x4, x5, st⟩) ((W.setCell ⟨b, 0, none⟩ (.int .u32 a)).setCell ⟨b, 1, none⟩ (.slice A5 (kp G ⟨sf, x0, x1, x2, x3, x4, x5, st⟩).length c5)) from one_stored hb2 hb3 hb4 hR5)
        have HK1 := Lib.hid fun W (hW : Rw eS W A5 (kp G ⟨sf, x0, x1, x2, x3, x4, x5, st⟩)) => k_one W ⟨a, A5, c5, kp G ⟨sf, x0, x1, x2, x3, x4, x5, st⟩⟩ ⟨HA.out.1, HA.out.2, hW, hc5, hm5⟩
        clear hR5 hS hb5 hm5 hc5 HBX
        go_wp2_with fail
        refine wp_region_below [fx (.slice A L cap), fx (.int .i64 (P : Int)), fx (.slice A P cap), kF T1, fx (.agg #[.int .u32 a, .slice A5 (kp G ⟨sf, x0, x1, x2, x3, x4, x5, st⟩).length c5]), kF [⟨a, (kp G ⟨sf, x0, x1, x2, x3, x4, x5, st⟩)⟩], fx (.slice (dA 2 A cap (P)) (L - (P)) (cap - (P))), kF T2, qK R, kF R, kF R, fx (.int .i64 0)]
          (by kernel_rfl) (by kernel_rfl) (by kernel_rfl) ?_ ?_ ?_
        · simp only [List.mem_cons, List.not_mem_nil, or_false]
          rintro φ (rfl | rfl | rfl | rfl | rfl | rfl | rfl | rfl | rfl | rfl | rfl | rfl)
          all_goals first | exact stable_fx _ | exact stable_fr _ _ | exact stable_kF _ | exact stable_qK _
        · refine OgSteps.cons ?_ (OgSteps.cons ?_ (OgSteps.cons ?_ (OgSteps.cons ?_ (OgSteps.cons ?_ (OgSteps.cons ?_ (OgSteps.cons ?_ (OgSteps.cons ?_ (OgSteps.cons ?_ (OgSteps.cons ?_ (OgSteps.cons ?_ (OgSteps.cons ?_ (OgSteps.nil))))))))))))
          · refine OgStep.pure ?_ ?_
            · rfl
            intro u W hS hp
            refine ⟨.slice A L cap, ?_, rfl⟩
            simp only [ogMk, Act.put, List.setIfInBounds_toArray, List.set_cons_zero, List.set_cons_succ, Nat.zero_add, Nat.reduceAdd]
            simp [execOp, Act.eval, go_sem]
          · refine OgStep.pure ?_ ?_
            · rfl
            intro u W hS hp
            refine ⟨.int .i64 (P : Int), ?_, rfl⟩
            simp only [ogMk, Act.put, List.setIfInBounds_toArray, List.set_cons_zero, List.set_cons_succ, Nat.zero_add, Nat.reduceAdd]
            simp [execOp, Act.eval, go_sem]
          · refine OgStep.pure ?_ ?_
            · rfl
            intro u W hS hp
            have h0 : u 0 = .slice A L cap := hp ⟨0, .data⟩ (by simp) rfl
            have h1 : u 1 = .int .i64 (P : Int) := hp ⟨1, .data⟩ (by simp) rfl
            have R := HSH.out W
            refine ⟨.slice A P cap, ?_, rfl⟩
            simp only [ogMk, Act.put, List.setIfInBounds_toArray, List.set_cons_zero, List.set_cons_succ, Nat.zero_add, Nat.reduceAdd]
            simp [execOp, Act.eval, go_sem, h0, h1, R]
          · refine OgStep.calls ?_ ?_
            · rfl
            intro u W hS hp
            have h2 : u 2 = .slice A P cap := hp ⟨2, .data⟩ (by simp) rfl
            refine ⟨85, #[.slice A P cap], ?_, calls_kF (HC1.out W (HB4.out.trans (hS.mono HB4.out.size))) rfl⟩
            simp only [ogMk, Act.put, List.setIfInBounds_toArray, List.set_cons_zero, List.set_cons_succ, Nat.zero_add, Nat.reduceAdd]
            simp [execOp, Act.eval, go_sem, h2]
          · refine OgStep.pure ?_ ?_
            · rfl
            intro u W hS hp
            have R0 := (oneX_below HX.out hS).1
            have R1 := (oneX_below HX.out hS).2.1
            refine ⟨.agg #[.int .u32 a, .slice A5 (kp G ⟨sf, x0, x1, x2, x3, x4, x5, st⟩).length c5], ?_, rfl⟩
            simp only [ogMk, Act.put, List.setIfInBounds_toArray, List.set_cons_zero, List.set_cons_succ, Nat.zero_add, Nat.reduceAdd]
            simp [execOp, Act.eval, go_sem, R0, R1]
          · refine OgStep.made ?_ ?_
            · rfl
            intro u W hS hp
            have h4 : u 4 = .agg #[.int .u32 a, .slice A5 (kp G ⟨sf, x0, x1, x2, x3, x4, x5, st⟩).length c5] := hp ⟨4, .data⟩ (by simp) rfl
            refine ⟨.slice (some ⟨W.heap.size, 0, none⟩) 1 1, _, ?_, (Below.refl _ W).alloc (Nat.le_refl _) _, HK1.out W (oneX_below HX.out hS).2.2⟩
            simp only [ogMk, Act.put, List.setIfInBounds_toArray, List.set_cons_zero, List.set_cons_succ, Nat.zero_add, Nat.reduceAdd]
            simp [execOp, Act.eval, go_sem, h4]
          · refine OgStep.pure ?_ ?_
            · rfl
            intro u W hS hp
            refine ⟨.slice (dA 2 A cap (P)) (L - (P)) (cap - (P)), ?_, rfl⟩
            simp only [ogMk, Act.put, List.setIfInBounds_toArray, List.set_cons_zero, List.set_cons_succ, Nat.zero_add, Nat.reduceAdd]
            simp [execOp, Act.eval, go_sem]
          · refine OgStep.calls ?_ ?_
            · rfl
            intro u W hS hp
            have h6 : u 6 = .slice (dA 2 A cap (P)) (L - (P)) (cap - (P)) := hp ⟨6, .data⟩ (by simp) rfl
            refine ⟨85, #[.slice (dA 2 A cap (P)) (L - (P)) (cap - (P))], ?_, calls_kF (HC2.out W (HB4.out.trans (hS.mono HB4.out.size))) rfl⟩
            simp only [ogMk, Act.put, List.setIfInBounds_toArray, List.set_cons_zero, List.set_cons_succ, Nat.zero_add, Nat.reduceAdd]
            simp [execOp, Act.eval, go_sem, h6]
          · refine OgStep.made ?_ ?_
            · rfl
            intro u W hS hp
            obtain ⟨A3, c3, h3, _, _, hR3⟩ : kF T1 (u 3) W := hp ⟨3, .data⟩ (by simp) rfl
            obtain ⟨A5, c5, h5, _, _, hR5⟩ : kF [⟨a, (kp G ⟨sf, x0, x1, x2, x3, x4, x5, st⟩)⟩] (u 5) W := hp ⟨5, .data⟩ (by simp) rfl
            obtain ⟨A7, c7, h7, _, _, hR7⟩ : kF T2 (u 7) W := hp ⟨7, .data⟩ (by simp) rfl
            refine ⟨.slice (some ⟨W.heap.size, 0, none⟩) 3 3, _, ?_, (Below.refl _ W).alloc (Nat.le_refl _) _, HQ.out W A3 A5 A7 c3 c5 c7 hR3 hR5 hR7⟩
            simp only [ogMk, Act.put, List.setIfInBounds_toArray, List.set_cons_zero, List.set_cons_succ, Nat.zero_add, Nat.reduceAdd]
            rw [h3, h5, h7]
            simp [execOp, Act.eval, go_sem]
          · refine OgStep.calls ?_ ?_
            · rfl
            intro u W hS hp
            obtain ⟨b, qs, e8, hl8, hPm, hct, hin⟩ : qK R (u 8) W := hp ⟨8, .data⟩ (by simp) rfl
            refine ⟨84, #[.slice (some ⟨b, 0, none⟩) 3 3], ?_, calls_kF (concat_k hl8 hPm hct hin HRL.out) rfl⟩
            simp only [ogMk, Act.put, List.setIfInBounds_toArray, List.set_cons_zero, List.set_cons_succ, Nat.zero_add, Nat.reduceAdd]
            rw [e8]
            simp [execOp, Act.eval, go_sem]
          · refine OgStep.pure ?_ ?_
            · rfl
            intro u W hS hp
            have h9 : kF R (u 9) W := hp ⟨9, .data⟩ (by simp) rfl
            refine ⟨u 9, ?_, h9⟩
            simp only [ogMk, Act.put, List.setIfInBounds_toArray, List.set_cons_zero, List.set_cons_succ, Nat.zero_add, Nat.reduceAdd]
            simp [execOp, Act.eval, go_sem]
          · refine OgStep.pure ?_ ?_
            · rfl
            intro u W hS hp
            refine ⟨.int .i64 0, ?_, rfl⟩
            simp only [ogMk, Act.put, List.setIfInBounds_toArray, List.set_cons_zero, List.set_cons_succ, Nat.zero_add, Nat.reduceAdd]
            simp [execOp, Act.eval, go_sem]
        · intro u W hS hF'
          have hF10 : kF R (u 10) W := hF' 10 (by decide)
          have hF := hF'
          have e0 : u 0 = .slice A L cap := hF 0 (by decide)
          have e1 : u 1 = .int .i64 (P : Int) := hF 1 (by decide)
          have e2 : u 2 = .slice A P cap := hF 2 (by decide)
          have e4 : u 4 = .agg #[.int .u32 a, .slice A5 (kp G ⟨sf, x0, x1, x2, x3, x4, x5, st⟩).length c5] := hF 4 (by decide)
          have e6 : u 6 = .slice (dA 2 A cap (P)) (L - (P)) (cap - (P)) := hF 6 (by decide)
          have e11 : u 11 = .int .i64 0 := hF 11 (by decide)
          simp only [ogMk, Act.put, List.setIfInBounds_toArray, List.set_cons_zero, List.set_cons_succ, Nat.zero_add, Nat.reduceAdd]
          rw [e0, e1, e2, e4, e6, e11]
          clear hF' e0 e1 e2 e4 e6 e11 hF
          go_wp2_with fail
          go_ret2
          exact ⟨_, rfl, HB4.out.trans (hS.mono HB4.out.size), hF10⟩
  · replace HQ := Lib.hid (HQ.out _ HD.out)
    replace HC2 := Lib.hid (HC2.out (lo xs a + 1))
    simp only [Bool.false_eq_true, if_false, if_true, Nat.add_zero] at HQ HPL HD
    generalize xs.take (lo xs a) = T1 at *
    generalize xs.drop (lo xs a + 1) = T2 at *
    generalize xs.length = L at *
    generalize lo xs a = P at *
    replace hI := hI rfl
    replace HSL1 := HSL1 rfl
    simp only [Int.natCast_add, Int.natCast_one] at HSL1
    generalize any G = B1 at *
    generalize tk G = K1 at *
    obtain ⟨sf, x0, x1, x2, x3, x4, x5, st⟩ := s
    simp only [sv, Sx] at HM HBB0 HLA HPL HBX0 h0 h1 HKP HKK HQ ⊢
    cases B1
    · replace h2 := h2 rfl
      clear h1
      go_enter Tryz.func37, Tryz.ntmps37
      go_wp2_with fail
      refine HM.out.mono ?_
      rintro e w1 ⟨rfl, rfl⟩
      go_wp2_with fail
      refine HLA.out.mono ?_
      rintro e w1 ⟨rfl, n1, rfl⟩
      go_wp2_with fail
      refine (HPL.out n1).mono ?_
      rintro e w2 ⟨rfl, n2, hw2⟩
      have HB2 := Lib.hid (show Below w.heap.size w w2 from hw2 ▸ bdrewN (bdrewN HBB0.out n1) n2)
      have HBX := Lib.hid (show Rw eS w2 (some ⟨w.heap.size, 0, none⟩) [⟨sf, x0, x1, x2, x3, x4, x5, st⟩] from hw2 ▸ (HBX0.out.drewN n1).drewN n2)
      clear hw2 HM HLA HPL HBX0
      go_wp2_with fail
      refine wp_region_below_end (by simp) [fx (.int .u32 a), fx (.slice A L cap), fx (.int .u32 a), sF G, fx (.agg #[.int .i64 sf, .int .u8 x0, .int .u8 x1, .int .u8 x2, .int .u8 x3, .int .u8 x4, .int .u8 x5, .int .i64 st]), sF (kp G ⟨sf, x0, x1, x2, x3, x4, x5, st⟩), bF a (kp G ⟨sf, x0, x1, x2, x3, x4, x5, st⟩), zF w.heap.size]
        (by kernel_rfl) (by kernel_rfl) (by kernel_rfl) (by kernel_rfl) ?_ ?_ ?_
      · simp only [List.mem_cons, List.not_mem_nil, or_false]
        rintro φ (rfl | rfl | rfl | rfl | rfl | rfl | rfl | rfl)
        all_goals first | exact stable_fx _ | exact stable_fr _ _ | exact stable_sF _ | exact stable_bF _ _ | exact stable_zF _
      · refine OgSteps.cons ?_ (OgSteps.cons ?_ (OgSteps.cons ?_ (OgSteps.cons ?_ (OgSteps.cons ?_ (OgSteps.cons ?_ (OgSteps.cons ?_ (OgSteps.cons ?_ (OgSteps.nil))))))))
        · refine OgStep.pure ?_ ?_
          · rfl
          intro u W hS hp
          refine ⟨.int .u32 a, ?_, rfl⟩
          simp only [ogMk, Act.put, List.setIfInBounds_toArray, List.set_cons_zero, List.set_cons_succ, Nat.zero_add, Nat.reduceAdd]
          simp [execOp, Act.eval, go_sem]
        · refine OgStep.pure ?_ ?_
          · rfl
          intro u W hS hp
          refine ⟨.slice A L cap, ?_, rfl⟩
          simp only [ogMk, Act.put, List.setIfInBounds_toArray, List.set_cons_zero, List.set_cons_succ, Nat.zero_add, Nat.reduceAdd]
          simp [execOp, Act.eval, go_sem]
        · refine OgStep.pure ?_ ?_
          · rfl
          intro u W hS hp
          refine ⟨.int .u32 a, ?_, rfl⟩
          simp only [ogMk, Act.put, List.setIfInBounds_toArray, List.set_cons_zero, List.set_cons_succ, Nat.zero_add, Nat.reduceAdd]
          simp [execOp, Act.eval, go_sem]
        · refine OgStep.calls ?_ ?_
          · rfl
          intro u W hS hp
          have h1 : u 1 = .slice A L cap := hp ⟨1, .data⟩ (by simp) rfl
          have h2 : u 2 = .int .u32 a := hp ⟨2, .data⟩ (by simp) rfl
          refine ⟨43, #[.slice A L cap, .int .u32 a], ?_, calls_sF (HOF.out W (HB2.out.trans (hS.mono HB2.out.size))) rfl⟩
          simp only [ogMk, Act.put, List.setIfInBounds_toArray, List.set_cons_zero, List.set_cons_succ, Nat.zero_add, Nat.reduceAdd]
          simp [execOp, Act.eval, go_sem, h1, h2]
        · refine OgStep.pure ?_ ?_
          · rfl
          intro u W hS hp
          obtain ⟨R0, R1, R2, R3, R4, R5, R6, R7⟩ := s_c8 (HBX.out.below hS)
          refine ⟨.agg #[.int .i64 sf, .int .u8 x0, .int .u8 x1, .int .u8 x2, .int .u8 x3, .int .u8 x4, .int .u8 x5, .int .i64 st], ?_, rfl⟩
          simp only [ogMk, Act.put, List.setIfInBounds_toArray, List.set_cons_zero, List.set_cons_succ, Nat.zero_add, Nat.reduceAdd]
          simp [execOp, Act.eval, go_sem, R0, R1, R2, R3, R4, R5, R6, R7]
        · refine OgStep.calls ?_ ?_
          · rfl
          intro u W hS hp
          obtain ⟨A3, c3, h3, hc3, _, hR3⟩ : sF G (u 3) W := hp ⟨3, .data⟩ (by simp) rfl
          have h4 : u 4 = .agg #[.int .i64 sf, .int .u8 x0, .int .u8 x1, .int .u8 x2, .int .u8 x3, .int .u8 x4, .int .u8 x5, .int .i64 st] := hp ⟨4, .data⟩ (by simp) rfl
          refine ⟨83, #[.slice A3 G.length c3, .agg #[.int .i64 sf, .int .u8 x0, .int .u8 x1, .int .u8 x2, .int .u8 x3, .int .u8 x4, .int .u8 x5, .int .i64 st]], ?_, calls_sF (HKP.out W A3 c3 hR3 hc3) rfl⟩
          simp only [ogMk, Act.put, List.setIfInBounds_toArray, List.set_cons_zero, List.set_cons_succ, Nat.zero_add, Nat.reduceAdd]
          rw [h3, h4]
          simp [execOp, Act.eval, go_sem]
        · refine OgStep.pure ?_ ?_
          · rfl
          intro u W hS hp
          obtain ⟨A5, c5, h5, hc5, hm5, hR5⟩ : sF (kp G ⟨sf, x0, x1, x2, x3, x4, x5, st⟩) (u 5) W := hp ⟨5, .data⟩ (by simp) rfl
          have h0 : u 0 = .int .u32 a := hp ⟨0, .data⟩ (by simp) rfl
          refine ⟨.agg #[.int .u32 a, .slice A5 (kp G ⟨sf, x0, x1, x2, x3, x4, x5, st⟩).length c5], ?_, ⟨A5, c5, rfl, hc5, hm5, hR5⟩⟩
          simp only [ogMk, Act.put, List.setIfInBounds_toArray, List.set_cons_zero, List.set_cons_succ, Nat.zero_add, Nat.reduceAdd]
          rw [h0, h5]
          simp [execOp, Act.eval, go_sem]
        · refine OgStep.made ?_ ?_
          · rfl
          intro u W hS hp
          refine ⟨.pointer (some ⟨W.heap.size, 0, none⟩), _, ?_, (Below.refl _ W).alloc (Nat.le_refl _) (.cells #[.int .u32 0, .slice none 0 0] 66), ⟨W.heap.size, rfl, Nat.le_trans HB2.out.size hS.size, by simp, by simp, by simp, fun j => by simp⟩⟩
          simp only [ogMk, Act.put, List.setIfInBounds_toArray, List.set_cons_zero, List.set_cons_succ, Nat.zero_add, Nat.reduceAdd]
          simp [execOp, Act.eval, go_sem]
      · intro u W hS hF
        have hF' := hF
        have e0 : u 0 = .int .u32 a := hF 0 (by decide)
        have e1 : u 1 = .slice A L cap := hF 1 (by decide)
        have e2 : u 2 = .int .u32 a := hF 2 (by decide)
        have e4 : u 4 = .agg #[.int .i64 sf, .int .u8 x0, .int .u8 x1, .int .u8 x2, .int .u8 x3, .int .u8 x4, .int .u8 x5, .int .i64 st] := hF 4 (by decide)
        simp only [ogMk, Act.put, List.setIfInBounds_toArray, List.set_cons_zero, List.set_cons_succ, Nat.zero_add, Nat.reduceAdd]
        rw [e0, e1, e2, e4]
        clear e0 e1 e2 e4 hF
        obtain ⟨A5, c5, e6, hc5, hm5, hR5⟩ : bF a (kp G ⟨sf, x0, x1, x2, x3, x4, x5, st⟩) (u 6) W := hF' 6 (by decide)
        obtain ⟨b, e7, hb1, hb2, hb3, hb4, hb5⟩ : zF w.heap.size (u 7) W := hF' 7 (by decide)
        obtain ⟨A3, c3, e3, _⟩ : sF G (u 3) W := hF' 3 (by decide)
        obtain ⟨A4, c4, e5, _⟩ : sF (kp G ⟨sf, x0, x1, x2, x3, x4, x5, st⟩) (u 5) W := hF' 5 (by decide)
        rw [e3, e5, e6, e7]
        have HW := Lib.hid (HB2.out.trans (hS.mono HB2.out.size))
        clear hF' e3 e5 e6 e7
        have hf0 := hb5 0
        have hf1 := hb5 1
        have HB4 := Lib.hid (show Below w.heap.size w ((W.setCell ⟨b, 0, none⟩ (.int .u32 a)).setCell ⟨b, 1, none⟩ (.slice A5 (kp G ⟨sf, x0, x1, x2, x3, x4, x5, st⟩).length c5)) from (HW.out.setCell hb1 _).setCell hb1 _)
        have HX := Lib.hid (show oneX b a A5 c5 (kp G ⟨sf, x0, x1, x2, x3, x4, x5, st⟩).length (kp G ⟨sf, x0, x1, x2, x3, x4, x5, st⟩) ((W.setCell ⟨b, 0, none⟩ (.int .u32 a)).setCell ⟨b, 1, none⟩ (.slice A5 (kp G ⟨sf, x0, x1, x2, x3, x4, x5, st⟩).length c5)) from one_stored hb2 hb3 hb4 hR5)
        have HK1 := Lib.hid fun W (hW : Rw eS W A5 (kp G ⟨sf, x0, x1, x2, x3, x4, x5, st⟩)) => k_one W ⟨a, A5, c5, kp G ⟨sf, x0, x1, x2, x3, x4, x5, st⟩⟩ ⟨HA.out.1, HA.out.2, hW, hc5, hm5⟩
        clear hR5 hS hb5 hm5 hc5 HBX
        go_wp2_with fail
        refine wp_region_below [fx (.slice A L cap), fx (.int .i64 (P : Int)), fx (.slice A P cap), kF T1, fx (.agg #[.int .u32 a, .slice A5 (kp G ⟨sf, x0, x1, x2, x3, x4, x5, st⟩).length c5]), kF [⟨a, (kp G ⟨sf, x0, x1, x2, x3, x4, x5, st⟩)⟩], fx (.slice (dA 2 A cap (P + 1)) (L - (P + 1)) (cap - (P + 1))), kF T2, qK R, kF R, kF R, fx (.int .i64 0)]
          (by kernel_rfl) (by kernel_rfl) (by kernel_rfl) ?_ ?_ ?_
        · simp only [List.mem_cons, List.not_mem_nil, or_false]
          rintro φ (rfl | rfl | rfl | rfl | rfl | rfl | rfl | rfl | rfl | rfl | rfl | rfl)
          all_goals first | exact stable_fx _ | exact stable_fr _ _ | exact stable_kF _ | exact stable_qK _
        · refine OgSteps.cons ?_ (OgSteps.cons ?_ (OgSteps.cons ?_ (OgSteps.cons ?_ (OgSteps.cons ?_ (OgSteps.cons ?_ (OgSteps.cons ?_ (OgSteps.cons ?_ (OgSteps.cons ?_ (OgSteps.cons ?_ (OgSteps.cons ?_ (OgSteps.cons ?_ (OgSteps.nil))))))))))))
          · refine OgStep.pure ?_ ?_
            · rfl
            intro u W hS hp
            refine ⟨.slice A L cap, ?_, rfl⟩
            simp only [ogMk, Act.put, List.setIfInBounds_toArray, List.set_cons_zero, List.set_cons_succ, Nat.zero_add, Nat.reduceAdd]
            simp [execOp, Act.eval, go_sem]
          · refine OgStep.pure ?_ ?_
            · rfl
            intro u W hS hp
            refine ⟨.int .i64 (P : Int), ?_, rfl⟩
            simp only [ogMk, Act.put, List.setIfInBounds_toArray, List.set_cons_zero, List.set_cons_succ, Nat.zero_add, Nat.reduceAdd]
            simp [execOp, Act.eval, go_sem]
          · refine OgStep.pure ?_ ?_
            · rfl
            intro u W hS hp
            have h0 : u 0 = .slice A L cap := hp ⟨0, .data⟩ (by simp) rfl
            have h1 : u 1 = .int .i64 (P : Int) := hp ⟨1, .data⟩ (by simp) rfl
            have R := HSH.out W
            refine ⟨.slice A P cap, ?_, rfl⟩
            simp only [ogMk, Act.put, List.setIfInBounds_toArray, List.set_cons_zero, List.set_cons_succ, Nat.zero_add, Nat.reduceAdd]
            simp [execOp, Act.eval, go_sem, h0, h1, R]
          · refine OgStep.calls ?_ ?_
            · rfl
            intro u W hS hp
            have h2 : u 2 = .slice A P cap := hp ⟨2, .data⟩ (by simp) rfl
            refine ⟨85, #[.slice A P cap], ?_, calls_kF (HC1.out W (HB4.out.trans (hS.mono HB4.out.size))) rfl⟩
            simp only [ogMk, Act.put, List.setIfInBounds_toArray, List.set_cons_zero, List.set_cons_succ, Nat.zero_add, Nat.reduceAdd]
            simp [execOp, Act.eval, go_sem, h2]
          · refine OgStep.pure ?_ ?_
            · rfl
            intro u W hS hp
            have R0 := (oneX_below HX.out hS).1
            have R1 := (oneX_below HX.out hS).2.1
            refine ⟨.agg #[.int .u32 a, .slice A5 (kp G ⟨sf, x0, x1, x2, x3, x4, x5, st⟩).length c5], ?_, rfl⟩
            simp only [ogMk, Act.put, List.setIfInBounds_toArray, List.set_cons_zero, List.set_cons_succ, Nat.zero_add, Nat.reduceAdd]
            simp [execOp, Act.eval, go_sem, R0, R1]
          · refine OgStep.made ?_ ?_
            · rfl
            intro u W hS hp
            have h4 : u 4 = .agg #[.int .u32 a, .slice A5 (kp G ⟨sf, x0, x1, x2, x3, x4, x5, st⟩).length c5] := hp ⟨4, .data⟩ (by simp) rfl
            refine ⟨.slice (some ⟨W.heap.size, 0, none⟩) 1 1, _, ?_, (Below.refl _ W).alloc (Nat.le_refl _) _, HK1.out W (oneX_below HX.out hS).2.2⟩
            simp only [ogMk, Act.put, List.setIfInBounds_toArray, List.set_cons_zero, List.set_cons_succ, Nat.zero_add, Nat.reduceAdd]
            simp [execOp, Act.eval, go_sem, h4]
          · refine OgStep.pure ?_ ?_
            · rfl
            intro u W hS hp
            refine ⟨.slice (dA 2 A cap (P + 1)) (L - (P + 1)) (cap - (P + 1)), ?_, rfl⟩
            simp only [ogMk, Act.put, List.setIfInBounds_toArray, List.set_cons_zero, List.set_cons_succ, Nat.zero_add, Nat.reduceAdd]
            simp [execOp, Act.eval, go_sem]
          · refine OgStep.calls ?_ ?_
            · rfl
            intro u W hS hp
            have h6 : u 6 = .slice (dA 2 A cap (P + 1)) (L - (P + 1)) (cap - (P + 1)) := hp ⟨6, .data⟩ (by simp) rfl
            refine ⟨85, #[.slice (dA 2 A cap (P + 1)) (L - (P + 1)) (cap - (P + 1))], ?_, calls_kF (HC2.out W (HB4.out.trans (hS.mono HB4.out.size))) rfl⟩
            simp only [ogMk, Act.put, List.setIfInBounds_toArray, List.set_cons_zero, List.set_cons_succ, Nat.zero_add, Nat.reduceAdd]
            simp [execOp, Act.eval, go_sem, h6]
          · refine OgStep.made ?_ ?_
            · rfl
            intro u W hS hp
            obtain ⟨A3, c3, h3, _, _, hR3⟩ : kF T1 (u 3) W := hp ⟨3, .data⟩ (by simp) rfl
            obtain ⟨A5, c5, h5, _, _, hR5⟩ : kF [⟨a, (kp G ⟨sf, x0, x1, x2, x3, x4, x5, st⟩)⟩] (u 5) W := hp ⟨5, .data⟩ (by simp) rfl
            obtain ⟨A7, c7, h7, _, _, hR7⟩ : kF T2 (u 7) W := hp ⟨7, .data⟩ (by simp) rfl
            refine ⟨.slice (some ⟨W.heap.size, 0, none⟩) 3 3, _, ?_, (Below.refl _ W).alloc (Nat.le_refl _) _, HQ.out W A3 A5 A7 c3 c5 c7 hR3 hR5 hR7⟩
            simp only [ogMk, Act.put, List.setIfInBounds_toArray, List.set_cons_zero, List.set_cons_succ, Nat.zero_add, Nat.reduceAdd]
            rw [h3, h5, h7]
            simp [execOp, Act.eval, go_sem]
          · refine OgStep.calls ?_ ?_
            · rfl
            intro u W hS hp
            obtain ⟨b, qs, e8, hl8, hPm, hct, hin⟩ : qK R (u 8) W := hp ⟨8, .data⟩ (by simp) rfl
            refine ⟨84, #[.slice (some ⟨b, 0, none⟩) 3 3], ?_, calls_kF (concat_k hl8 hPm hct hin HRL.out) rfl⟩
            simp only [ogMk, Act.put, List.setIfInBounds_toArray, List.set_cons_zero, List.set_cons_succ, Nat.zero_add, Nat.reduceAdd]
            rw [e8]
            simp [execOp, Act.eval, go_sem]
          · refine OgStep.pure ?_ ?_
            · rfl
            intro u W hS hp
            have h9 : kF R (u 9) W := hp ⟨9, .data⟩ (by simp) rfl
            refine ⟨u 9, ?_, h9⟩
            simp only [ogMk, Act.put, List.setIfInBounds_toArray, List.set_cons_zero, List.set_cons_succ, Nat.zero_add, Nat.reduceAdd]
            simp [execOp, Act.eval, go_sem]
          · refine OgStep.pure ?_ ?_
            · rfl
            intro u W hS hp
            refine ⟨.int .i64 0, ?_, rfl⟩
            simp only [ogMk, Act.put, List.setIfInBounds_toArray, List.set_cons_zero, List.set_cons_succ, Nat.zero_add, Nat.reduceAdd]
            simp [execOp, Act.eval, go_sem]
        · intro u W hS hF'
          have hF10 : kF R (u 10) W := hF' 10 (by decide)
          have hF := hF'
          have e0 : u 0 = .slice A L cap := hF 0 (by decide)
          have e1 : u 1 = .int .i64 (P : Int) := hF 1 (by decide)
          have e2 : u 2 = .slice A P cap := hF 2 (by decide)
          have e4 : u 4 = .agg #[.int .u32 a, .slice A5 (kp G ⟨sf, x0, x1, x2, x3, x4, x5, st⟩).length c5] := hF 4 (by decide)
          have e6 : u 6 = .slice (dA 2 A cap (P + 1)) (L - (P + 1)) (cap - (P + 1)) := hF 6 (by decide)
          have e11 : u 11 = .int .i64 0 := hF 11 (by decide)
          simp only [ogMk, Act.put, List.setIfInBounds_toArray, List.set_cons_zero, List.set_cons_succ, Nat.zero_add, Nat.reduceAdd]
          rw [e0, e1, e2, e4, e6, e11]
          clear hF' e0 e1 e2 e4 e6 e11 hF
          go_wp2_with fail
          go_ret2
          exact ⟨_, rfl, HB4.out.trans (hS.mono HB4.out.size), hF10⟩
    · replace h1 := h1 rfl
      clear h2
      go_enter Tryz.func37, Tryz.ntmps37
      go_wp2_with fail
      refine HM.out.mono ?_
      rintro e w1 ⟨rfl, rfl⟩
      go_wp2_with fail
      refine HLA.out.mono ?_
      rintro e w1 ⟨rfl, n1, rfl⟩
      go_wp2_with fail
      refine (HPL.out n1).mono ?_
      rintro e w2 ⟨rfl, n2, hw2⟩
      have HB2 := Lib.hid (show Below w.heap.size w w2 from hw2 ▸ bdrewN (bdrewN HBB0.out n1) n2)
      have HBX := Lib.hid (show Rw eS w2 (some ⟨w.heap.size, 0, none⟩) [⟨sf, x0, x1, x2, x3, x4, x5, st⟩] from hw2 ▸ (HBX0.out.drewN n1).drewN n2)
      clear hw2 HM HLA HPL HBX0
      go_wp2_with fail
      refine wp_region_below_end (by simp) [fx (.int .u32 a), fx (.slice A L cap), fx (.int .u32 a), sF G, fx (.agg #[.int .i64 sf, .int .u8 x0, .int .u8 x1, .int .u8 x2, .int .u8 x3, .int .u8 x4, .int .u8 x5, .int .i64 st]), sF (kp G ⟨sf, x0, x1, x2, x3, x4, x5, st⟩), bF a (kp G ⟨sf, x0, x1, x2, x3, x4, x5, st⟩), zF w.heap.size]
        (by kernel_rfl) (by kernel_rfl) (by kernel_rfl) (by kernel_rfl) ?_ ?_ ?_
      · simp only [List.mem_cons, List.not_mem_nil, or_false]
        rintro φ (rfl | rfl | rfl | rfl | rfl | rfl | rfl | rfl)
        all_goals first | exact stable_fx _ | exact stable_fr _ _ | exact stable_sF _ | exact stable_bF _ _ | exact stable_zF _
      · refine OgSteps.cons ?_ (OgSteps.cons ?_ (OgSteps.cons ?_ (OgSteps.cons ?_ (OgSteps.cons ?_ (OgSteps.cons ?_ (OgSteps.cons ?_ (OgSteps.cons ?_ (OgSteps.nil))))))))
        · refine OgStep.pure ?_ ?_
          · rfl
          intro u W hS hp
          refine ⟨.int .u32 a, ?_, rfl⟩
          simp only [ogMk, Act.put, List.setIfInBounds_toArray, List.set_cons_zero, List.set_cons_succ, Nat.zero_add, Nat.reduceAdd]
          simp [execOp, Act.eval, go_sem]
        · refine OgStep.pure ?_ ?_
          · rfl
          intro u W hS hp
          refine ⟨.slice A L cap, ?_, rfl⟩
          simp only [ogMk, Act.put, List.setIfInBounds_toArray, List.set_cons_zero, List.set_cons_succ, Nat.zero_add, Nat.reduceAdd]
          simp [execOp, Act.eval, go_sem]
        · refine OgStep.pure ?_ ?_
          · rfl
          intro u W hS hp
          refine ⟨.int .u32 a, ?_, rfl⟩
          simp only [ogMk, Act.put, List.setIfInBounds_toArray, List.set_cons_zero, List.set_cons_succ, Nat.zero_add, Nat.reduceAdd]
          simp [execOp, Act.eval, go_sem]
        · refine OgStep.calls ?_ ?_
          · rfl
          intro u W hS hp
          have h1 : u 1 = .slice A L cap := hp ⟨1, .data⟩ (by simp) rfl
          have h2 : u 2 = .int .u32 a := hp ⟨2, .data⟩ (by simp) rfl
          refine ⟨43, #[.slice A L cap, .int .u32 a], ?_, calls_sF (HOF.out W (HB2.out.trans (hS.mono HB2.out.size))) rfl⟩
          simp only [ogMk, Act.put, List.setIfInBounds_toArray, List.set_cons_zero, List.set_cons_succ, Nat.zero_add, Nat.reduceAdd]
          simp [execOp, Act.eval, go_sem, h1, h2]
        · refine OgStep.pure ?_ ?_
          · rfl
          intro u W hS hp
          obtain ⟨R0, R1, R2, R3, R4, R5, R6, R7⟩ := s_c8 (HBX.out.below hS)
          refine ⟨.agg #[.int .i64 sf, .int .u8 x0, .int .u8 x1, .int .u8 x2, .int .u8 x3, .int .u8 x4, .int .u8 x5, .int .i64 st], ?_, rfl⟩
          simp only [ogMk, Act.put, List.setIfInBounds_toArray, List.set_cons_zero, List.set_cons_succ, Nat.zero_add, Nat.reduceAdd]
          simp [execOp, Act.eval, go_sem, R0, R1, R2, R3, R4, R5, R6, R7]
        · refine OgStep.calls ?_ ?_
          · rfl
          intro u W hS hp
          obtain ⟨A3, c3, h3, hc3, _, hR3⟩ : sF G (u 3) W := hp ⟨3, .data⟩ (by simp) rfl
          have h4 : u 4 = .agg #[.int .i64 sf, .int .u8 x0, .int .u8 x1, .int .u8 x2, .int .u8 x3, .int .u8 x4, .int .u8 x5, .int .i64 st] := hp ⟨4, .data⟩ (by simp) rfl
          refine ⟨83, #[.slice A3 G.length c3, .agg #[.int .i64 sf, .int .u8 x0, .int .u8 x1, .int .u8 x2, .int .u8 x3, .int .u8 x4, .int .u8 x5, .int .i64 st]], ?_, calls_sF (HKP.out W A3 c3 hR3 hc3) rfl⟩
          simp only [ogMk, Act.put, List.setIfInBounds_toArray, List.set_cons_zero, List.set_cons_succ, Nat.zero_add, Nat.reduceAdd]
          rw [h3, h4]
          simp [execOp, Act.eval, go_sem]
        · refine OgStep.pure ?_ ?_
          · rfl
          intro u W hS hp
          obtain ⟨A5, c5, h5, hc5, hm5, hR5⟩ : sF (kp G ⟨sf, x0, x1, x2, x3, x4, x5, st⟩) (u 5) W := hp ⟨5, .data⟩ (by simp) rfl
          have h0 : u 0 = .int .u32 a := hp ⟨0, .data⟩ (by simp) rfl
          refine ⟨.agg #[.int .u32 a, .slice A5 (kp G ⟨sf, x0, x1, x2, x3, x4, x5, st⟩).length c5], ?_, ⟨A5, c5, rfl, hc5, hm5, hR5⟩⟩
          simp only [ogMk, Act.put, List.setIfInBounds_toArray, List.set_cons_zero, List.set_cons_succ, Nat.zero_add, Nat.reduceAdd]
          rw [h0, h5]
          simp [execOp, Act.eval, go_sem]
        · refine OgStep.made ?_ ?_
          · rfl
          intro u W hS hp
          refine ⟨.pointer (some ⟨W.heap.size, 0, none⟩), _, ?_, (Below.refl _ W).alloc (Nat.le_refl _) (.cells #[.int .u32 0, .slice none 0 0] 66), ⟨W.heap.size, rfl, Nat.le_trans HB2.out.size hS.size, by simp, by simp, by simp, fun j => by simp⟩⟩
          simp only [ogMk, Act.put, List.setIfInBounds_toArray, List.set_cons_zero, List.set_cons_succ, Nat.zero_add, Nat.reduceAdd]
          simp [execOp, Act.eval, go_sem]
      · intro u W hS hF
        have hF' := hF
        have e0 : u 0 = .int .u32 a := hF 0 (by decide)
        have e1 : u 1 = .slice A L cap := hF 1 (by decide)
        have e2 : u 2 = .int .u32 a := hF 2 (by decide)
        have e4 : u 4 = .agg #[.int .i64 sf, .int .u8 x0, .int .u8 x1, .int .u8 x2, .int .u8 x3, .int .u8 x4, .int .u8 x5, .int .i64 st] := hF 4 (by decide)
        simp only [ogMk, Act.put, List.setIfInBounds_toArray, List.set_cons_zero, List.set_cons_succ, Nat.zero_add, Nat.reduceAdd]
        rw [e0, e1, e2, e4]
        clear e0 e1 e2 e4 hF
        obtain ⟨A5, c5, e6, hc5, hm5, hR5⟩ : bF a (kp G ⟨sf, x0, x1, x2, x3, x4, x5, st⟩) (u 6) W := hF' 6 (by decide)
        obtain ⟨b, e7, hb1, hb2, hb3, hb4, hb5⟩ : zF w.heap.size (u 7) W := hF' 7 (by decide)
        obtain ⟨A3, c3, e3, _⟩ : sF G (u 3) W := hF' 3 (by decide)
        obtain ⟨A4, c4, e5, _⟩ : sF (kp G ⟨sf, x0, x1, x2, x3, x4, x5, st⟩) (u 5) W := hF' 5 (by decide)
        rw [e3, e5, e6, e7]
        have HW := Lib.hid (HB2.out.trans (hS.mono HB2.out.size))
        clear hF' e3 e5 e6 e7
        have hf0 := hb5 0
        have hf1 := hb5 1
        have HB4 := Lib.hid (show Below w.heap.size w ((W.setCell ⟨b, 0, none⟩ (.int .u32 a)).setCell ⟨b, 1, none⟩ (.slice A5 (kp G ⟨sf, x0, x1, x2, x3, x4, x5, st⟩).length c5)) from (HW.out.setCell hb1 _).setCell hb1 _)
        have HX := Lib.hid (show oneX b a A5 c5 (kp G ⟨sf, x0, x1, x2, x3, x4, x5, st⟩).length (kp G ⟨sf, x0, x1, x2, x3, x4, x5, st⟩) ((W.setCell ⟨b, 0, none⟩ (.int .u32 a)).setCell ⟨b, 1, none⟩ (.slice A5 (kp G ⟨sf, x0, x1, x2, x3, x4, x5, st⟩).length c5)) from one_stored hb2 hb3 hb4 hR5)
        have HK1 := Lib.hid fun W (hW : Rw eS W A5 (kp G ⟨sf, x0, x1, x2, x3, x4, x5, st⟩)) => k_one W ⟨a, A5, c5, kp G ⟨sf, x0, x1, x2, x3, x4, x5, st⟩⟩ ⟨HA.out.1, HA.out.2, hW, hc5, hm5⟩
        clear hR5 hS hb5 hm5 hc5 HBX
        go_wp2_with fail
        refine wp_region_below [fx (.slice A L cap), fx (.int .i64 (P : Int)), fx (.slice A P cap), kF T1, fx (.agg #[.int .u32 a, .slice A5 (kp G ⟨sf, x0, x1, x2, x3, x4, x5, st⟩).length c5]), kF [⟨a, (kp G ⟨sf, x0, x1, x2, x3, x4, x5, st⟩)⟩], fx (.slice (dA 2 A cap (P + 1)) (L - (P + 1)) (cap - (P + 1))), kF T2, qK R, kF R, kF R, fx (.int .i64 0)]
          (by kernel_rfl) (by kernel_rfl) (by kernel_rfl) ?_ ?_ ?_
        · simp only [List.mem_cons, List.not_mem_nil, or_false]
          rintro φ (rfl | rfl | rfl | rfl | rfl | rfl | rfl | rfl | rfl | rfl | rfl | rfl)
          all_goals first | exact stable_fx _ | exact stable_fr _ _ | exact stable_kF _ | exact stable_qK _
        · refine OgSteps.cons ?_ (OgSteps.cons ?_ (OgSteps.cons ?_ (OgSteps.cons ?_ (OgSteps.cons ?_ (OgSteps.cons ?_ (OgSteps.cons ?_ (OgSteps.cons ?_ (OgSteps.cons ?_ (OgSteps.cons ?_ (OgSteps.cons ?_ (OgSteps.cons ?_ (OgSteps.nil))))))))))))
          · refine OgStep.pure ?_ ?_
            · rfl
            intro u W hS hp
            refine ⟨.slice A L cap, ?_, rfl⟩
            simp only [ogMk, Act.put, List.setIfInBounds_toArray, List.set_cons_zero, List.set_cons_succ, Nat.zero_add, Nat.reduceAdd]
            simp [execOp, Act.eval, go_sem]
          · refine OgStep.pure ?_ ?_
            · rfl
            intro u W hS hp
            refine ⟨.int .i64 (P : Int), ?_, rfl⟩
            simp only [ogMk, Act.put, List.setIfInBounds_toArray, List.set_cons_zero, List.set_cons_succ, Nat.zero_add, Nat.reduceAdd]
            simp [execOp, Act.eval, go_sem]
          · refine OgStep.pure ?_ ?_
            · rfl
            intro u W hS hp
            have h0 : u 0 = .slice A L cap := hp ⟨0, .data⟩ (by simp) rfl
            have h1 : u 1 = .int .i64 (P : Int) := hp ⟨1, .data⟩ (by simp) rfl
            have R := HSH.out W
            refine ⟨.slice A P cap, ?_, rfl⟩
            simp only [ogMk, Act.put, List.setIfInBounds_toArray, List.set_cons_zero, List.set_cons_succ, Nat.zero_add, Nat.reduceAdd]
            simp [execOp, Act.eval, go_sem, h0, h1, R]
          · refine OgStep.calls ?_ ?_
            · rfl
            intro u W hS hp
            have h2 : u 2 = .slice A P cap := hp ⟨2, .data⟩ (by simp) rfl
            refine ⟨85, #[.slice A P cap], ?_, calls_kF (HC1.out W (HB4.out.trans (hS.mono HB4.out.size))) rfl⟩
            simp only [ogMk, Act.put, List.setIfInBounds_toArray, List.set_cons_zero, List.set_cons_succ, Nat.zero_add, Nat.reduceAdd]
            simp [execOp, Act.eval, go_sem, h2]
          · refine OgStep.pure ?_ ?_
            · rfl
            intro u W hS hp
            have R0 := (oneX_below HX.out hS).1
            have R1 := (oneX_below HX.out hS).2.1
            refine ⟨.agg #[.int .u32 a, .slice A5 (kp G ⟨sf, x0, x1, x2, x3, x4, x5, st⟩).length c5], ?_, rfl⟩
            simp only [ogMk, Act.put, List.setIfInBounds_toArray, List.set_cons_zero, List.set_cons_succ, Nat.zero_add, Nat.reduceAdd]
            simp [execOp, Act.eval, go_sem, R0, R1]
          · refine OgStep.made ?_ ?_
            · rfl
            intro u W hS hp
            have h4 : u 4 = .agg #[.int .u32 a, .slice A5 (kp G ⟨sf, x0, x1, x2, x3, x4, x5, st⟩).length c5] := hp ⟨4, .data⟩ (by simp) rfl
            refine ⟨.slice (some ⟨W.heap.size, 0, none⟩) 1 1, _, ?_, (Below.refl _ W).alloc (Nat.le_refl _) _, HK1.out W (oneX_below HX.out hS).2.2⟩
            simp only [ogMk, Act.put, List.setIfInBounds_toArray, List.set_cons_zero, List.set_cons_succ, Nat.zero_add, Nat.reduceAdd]
            simp [execOp, Act.eval, go_sem, h4]
          · refine OgStep.pure ?_ ?_
            · rfl
            intro u W hS hp
            refine ⟨.slice (dA 2 A cap (P + 1)) (L - (P + 1)) (cap - (P + 1)), ?_, rfl⟩
            simp only [ogMk, Act.put, List.setIfInBounds_toArray, List.set_cons_zero, List.set_cons_succ, Nat.zero_add, Nat.reduceAdd]
            simp [execOp, Act.eval, go_sem]
          · refine OgStep.calls ?_ ?_
            · rfl
            intro u W hS hp
            have h6 : u 6 = .slice (dA 2 A cap (P + 1)) (L - (P + 1)) (cap - (P + 1)) := hp ⟨6, .data⟩ (by simp) rfl
            refine ⟨85, #[.slice (dA 2 A cap (P + 1)) (L - (P + 1)) (cap - (P + 1))], ?_, calls_kF (HC2.out W (HB4.out.trans (hS.mono HB4.out.size))) rfl⟩
            simp only [ogMk, Act.put, List.setIfInBounds_toArray, List.set_cons_zero, List.set_cons_succ, Nat.zero_add, Nat.reduceAdd]
            simp [execOp, Act.eval, go_sem, h6]
          · refine OgStep.made ?_ ?_
            · rfl
            intro u W hS hp
            obtain ⟨A3, c3, h3, _, _, hR3⟩ : kF T1 (u 3) W := hp ⟨3, .data⟩ (by simp) rfl
            obtain ⟨A5, c5, h5, _, _, hR5⟩ : kF [⟨a, (kp G ⟨sf, x0, x1, x2, x3, x4, x5, st⟩)⟩] (u 5) W := hp ⟨5, .data⟩ (by simp) rfl
            obtain ⟨A7, c7, h7, _, _, hR7⟩ : kF T2 (u 7) W := hp ⟨7, .data⟩ (by simp) rfl
            refine ⟨.slice (some ⟨W.heap.size, 0, none⟩) 3 3, _, ?_, (Below.refl _ W).alloc (Nat.le_refl _) _, HQ.out W A3 A5 A7 c3 c5 c7 hR3 hR5 hR7⟩
            simp only [ogMk, Act.put, List.setIfInBounds_toArray, List.set_cons_zero, List.set_cons_succ, Nat.zero_add, Nat.reduceAdd]
            rw [h3, h5, h7]
            simp [execOp, Act.eval, go_sem]
          · refine OgStep.calls ?_ ?_
            · rfl
            intro u W hS hp
            obtain ⟨b, qs, e8, hl8, hPm, hct, hin⟩ : qK R (u 8) W := hp ⟨8, .data⟩ (by simp) rfl
            refine ⟨84, #[.slice (some ⟨b, 0, none⟩) 3 3], ?_, calls_kF (concat_k hl8 hPm hct hin HRL.out) rfl⟩
            simp only [ogMk, Act.put, List.setIfInBounds_toArray, List.set_cons_zero, List.set_cons_succ, Nat.zero_add, Nat.reduceAdd]
            rw [e8]
            simp [execOp, Act.eval, go_sem]
          · refine OgStep.pure ?_ ?_
            · rfl
            intro u W hS hp
            have h9 : kF R (u 9) W := hp ⟨9, .data⟩ (by simp) rfl
            refine ⟨u 9, ?_, h9⟩
            simp only [ogMk, Act.put, List.setIfInBounds_toArray, List.set_cons_zero, List.set_cons_succ, Nat.zero_add, Nat.reduceAdd]
            simp [execOp, Act.eval, go_sem]
          · refine OgStep.pure ?_ ?_
            · rfl
            intro u W hS hp
            refine ⟨.int .i64 0, ?_, rfl⟩
            simp only [ogMk, Act.put, List.setIfInBounds_toArray, List.set_cons_zero, List.set_cons_succ, Nat.zero_add, Nat.reduceAdd]
            simp [execOp, Act.eval, go_sem]
        · intro u W hS hF'
          have hF10 : kF R (u 10) W := hF' 10 (by decide)
          have hF := hF'
          have e0 : u 0 = .slice A L cap := hF 0 (by decide)
          have e1 : u 1 = .int .i64 (P : Int) := hF 1 (by decide)
          have e2 : u 2 = .slice A P cap := hF 2 (by decide)
          have e4 : u 4 = .agg #[.int .u32 a, .slice A5 (kp G ⟨sf, x0, x1, x2, x3, x4, x5, st⟩).length c5] := hF 4 (by decide)
          have e6 : u 6 = .slice (dA 2 A cap (P + 1)) (L - (P + 1)) (cap - (P + 1)) := hF 6 (by decide)
          have e11 : u 11 = .int .i64 0 := hF 11 (by decide)
          simp only [ogMk, Act.put, List.setIfInBounds_toArray, List.set_cons_zero, List.set_cons_succ, Nat.zero_add, Nat.reduceAdd]
          rw [e0, e1, e2, e4, e6, e11]
          clear hF' e0 e1 e2 e4 e6 e11 hF
          go_wp2_with fail
          go_ret2
          exact ⟨_, rfl, HB4.out.trans (hS.mono HB4.out.size), hF10⟩
end Go.Proofs.YtilneflfeegnfaaGreat.Sn

/-
  The contract of seen.Forget, at the function that SeenForget hands in. Conditions: the row lies in memory, and has up to 1000 addresses, each of up to 1000 sightings.
-/
set_option linter.unusedSimpArgs false
set_option linter.unusedVariables false
namespace Go.Proofs.YtilneflfeegnfaaGreat.Sn
open Go.RowKit

/-- Whether somebody wants to know of an address still. -/
def wB (odd : Int → Bool) (a : Int) : Bool := odd a
/-- Where its sightings lie, another row does not. -/
def Ap (x : Kn) (g : Option Nat) : Prop := 0 < x.ss.length → ∀ p, x.P = some p → some p.block ≠ g
theorem kn_grown {w w' : World} {x : Kn} {row : Option Nat} (h : x.In w) (hg : w.grownBy w' row) (ha : Ap x row) : x.In w' := by
  refine ⟨h.a0, h.a1, ?_, h.le, h.max⟩
  rcases Nat.eq_zero_or_pos x.ss.length with e | e
  · rw [List.eq_nil_of_length_eq_zero e]
    exact Rw.nil _ _
  · exact h.lies.grown hg fun p hp => ha e p hp
theorem rw_lt {w : World} {p : Addr} {ss : List Sg} (h : Rw eS w (some p) ss) (hl : 0 < ss.length) : p.block < w.heap.size := by
  have := World.block_lt_of_cell? _ _ (h.at (List.getElem?_eq_getElem hl) 0 _ rfl)
  rwa [add_block, add_block] at this
theorem wpList_append_at (w : World) {ops : Array Oper} {rest : List Oper} {o : Oper} {a : Act} {Q : Exit → Act → World → Prop} (hgd : o.guard = none) (s x : Operand) (ho : o.op = .call { callee := .builtin .append, args := #[s, x], argTypes := #[31, 31] })
    (base : Nat) (v : Value) (n : Nat) (xs : List Kn) (hs : a.eval s = v) (hown : w.ownsRow base 66 2 v n (eK.cs xs)) (A : Option Addr) (c : Nat) (y : Kn) (hx : a.eval x = .slice A 1 c) (hr : Rw eK w A [y])
    (hlen : n + 1 ≤ 1000000) (hbase : base ≤ w.heap.size)
    (h : ∀ v' w', w'.ownsRow base 66 2 v' (n + 1) (eK.cs (xs ++ [y])) → w.grownBy w' v.ownBlock → (v'.ownBlock = v.ownBlock ∨ v'.ownBlock = some w.heap.size) → wpList Tryz.prog ops Q rest (a.put o.dst v') w') : wpList Tryz.prog ops Q (o :: rest) a w := by
  obtain ⟨A, rfl⟩ := rw_some hr (by simp)
  obtain ⟨i, z, b, hi, hz0, hz1, hz2, hz3, hb⟩ := tK.info
  refine wpList_append_own_at w hgd s x 31 ho base 66 i z 2 b tK.sl hi hz0 hz1 hz2 hz3 (by decide) v n (eK.cs xs) hs hown A 1 c (eK.cs [y]) hx (by rw [cs_length]; rfl) hr.cells (cs_one _) (by unfold maxLen; omega)
    (Nat.le_trans (Nat.mul_le_mul hlen hb) (by omega)) hbase ?_
  intro v' w' h1 h2 _ h3
  rw [← cs_append] at h1
  exact h v' w' h1 h2 h3
/-- Sightings, an address with them, and a row of one, which lie from a block on. -/
def sG (B : Nat) (ss : List Sg) : Value → World → Prop := fun v W => ∃ A c, v = .slice A ss.length c ∧ ss.length ≤ c ∧ c ≤ maxLen ∧ Rw eS W A ss ∧ ∀ p, A = some p → B ≤ p.block
theorem stable_sG (B : Nat) (ss : List Sg) : Stable (sG B ss) := fun _ _ _ ⟨A, c, h1, h2, h3, h4, h5⟩ hb => ⟨A, c, h1, h2, h3, h4.below hb, h5⟩
def bG (B : Nat) (a : Int) (ss : List Sg) : Value → World → Prop := fun v W => ∃ A c, v = .agg #[.int .u32 a, .slice A ss.length c] ∧ ss.length ≤ c ∧ c ≤ maxLen ∧ Rw eS W A ss ∧ ∀ p, A = some p → B ≤ p.block
theorem stable_bG (B : Nat) (a : Int) (ss : List Sg) : Stable (bG B a ss) := fun _ _ _ ⟨A, c, h1, h2, h3, h4, h5⟩ hb => ⟨A, c, h1, h2, h3, h4.below hb, h5⟩
def kG (B : Nat) (a : Int) (ss : List Sg) : Value → World → Prop := fun v W => ∃ (A : Option Addr) (c : Nat) (y : Kn), v = .slice A 1 c ∧ Rw eK W A [y] ∧ y.In W ∧ y.p = ⟨a, ss⟩ ∧ ∀ p, y.P = some p → B ≤ p.block
theorem stable_kG (B : Nat) (a : Int) (ss : List Sg) : Stable (kG B a ss) := fun _ _ _ ⟨A, c, y, h1, h2, h3, h4, h5⟩ hb => ⟨A, c, y, h1, h2.below hb, h3.below hb, h4, h5⟩
theorem calls_sG {B : Nat} {args : Array Value} {f : FuncId} {W : World} {ss : List Sg} {Φ : List (Value → World → Prop)} {i : Nat} (h : Calls Tryz.prog f args W (OwnPost eS 49 W ss)) (hB : B ≤ W.heap.size) (hl : ss.length ≤ 1000000) (hi : fAt Φ i = sG B ss) : Calls Tryz.prog f args W fun e w' => ∃ v, e = .returned v ∧ Below W.heap.size W w' ∧ fAt Φ i v w' := by
  rw [hi]
  refine h.mono ?_
  rintro e w' ⟨v, rfl, ho, hb⟩
  obtain ⟨A, c, rfl, h1, h2, _, h3, h4⟩ := own_rw (E := eS) ho (by omega)
  exact ⟨_, rfl, hb, A, c, rfl, h1, h2, h3, fun p hp => Nat.le_trans hB (h4 p hp).1⟩
theorem rwK_one (W : World) (x : Kn) : Rw eK (W.alloc (.cells #[.int .u32 x.a, .slice x.P x.ss.length x.c] 66)) (some ⟨W.heap.size, 0, none⟩) [x] := by
  refine ⟨by simp, fun q z hq => ?_⟩
  match q, hq with
  | 0, hq =>
    simp at hq
    subst hq
    refine ⟨_, rfl, fun j v hv => ?_⟩
    rw [Addr.add_mid]
    change (kl x)[j]? = some v at hv
    show (W.alloc _).cell? ⟨W.heap.size, 0 + (0 * 2 + j), none⟩ = _
    match j, hv with
    | 0, h => simp [kl] at h; subst h; simp
    | 1, h => simp [kl] at h; subst h; simp
    | j + 2, h => simp [kl] at h
  | q + 1, hq => simp at hq

theorem bthen {B : Nat} {a b c : World} (h : Below B a b) (k : Below b.heap.size b c) (hB : B ≤ b.heap.size) : Below B a c := h.trans (k.mono hB)
/-- The row that has been kept, behind the first k. -/
structure Fg (w : World) (ps : List Kp) (odd : Int → Bool) (k : Nat) (v : Value) (n : Nat) (ys : List Kn) (wr : World) : Prop where
  own : wr.ownsRow w.heap.size 66 2 v n (eK.cs ys)
  len : ys.length = n
  row : ys.map Kn.p = (ps.take k).filter fun x => wB odd x.a
  ins : ∀ y ∈ ys, y.In wr ∧ Ap y v.ownBlock
  bel : Below w.heap.size w wr
theorem Fg.below {w wr w' : World} {ps : List Kp} {odd : Int → Bool} {k n : Nat} {v : Value} {ys : List Kn} (h : Fg w ps odd k v n ys wr) (hb : Below wr.heap.size wr w') : Fg w ps odd k v n ys w' :=
  ⟨own_keep h.own hb, h.len, h.row, fun y hy => ⟨(h.ins y hy).1.below hb, (h.ins y hy).2⟩, bthen h.bel hb h.bel.size⟩
theorem Fg.no {w wr : World} {ps : List Kp} {odd : Int → Bool} {k n : Nat} {v : Value} {ys : List Kn} (h : Fg w ps odd k v n ys wr) {x : Kp} (hx : ps[k]? = some x) (hw : wB odd x.a = false) : Fg w ps odd (k + 1) v n ys wr :=
  ⟨h.own, h.len, by rw [List.take_add_one, hx, List.filter_append, h.row]; simp [hw], h.ins, h.bel⟩
theorem Fg.yes {w w1 wr w' : World} {ps : List Kp} {odd : Int → Bool} {k n : Nat} {v v' : Value} {ys : List Kn} (h : Fg w ps odd k v n ys w1) (hb : Below w1.heap.size w1 wr) {x : Kp} (hx : ps[k]? = some x) (hw : wB odd x.a = true) {y : Kn} (hy : y.In wr) (hyp : y.p = x) (hyb : ∀ p, y.P = some p → w1.heap.size ≤ p.block)
    (ho : w'.ownsRow w.heap.size 66 2 v' (n + 1) (eK.cs (ys ++ [y]))) (hg : wr.grownBy w' v.ownBlock) (hat : v'.ownBlock = v.ownBlock ∨ v'.ownBlock = some wr.heap.size) : Fg w ps odd (k + 1) v' (n + 1) (ys ++ [y]) w' := by
  have h2 := h.below hb
  have hsz := h2.bel.size
  have hlt : ∀ g, v.ownBlock = some g → w.heap.size ≤ g ∧ g < w1.heap.size := fun g hgv => h.own.lt g hgv
  have hins : ∀ z ∈ ys ++ [y], z.In wr ∧ Ap z v.ownBlock := by
    intro z hz
    rcases List.mem_append.1 hz with hz | hz
    · exact h2.ins z hz
    · simp at hz
      subst hz
      refine ⟨hy, fun _ p hp e => ?_⟩
      have h3 := hyb p hp
      have h4 := (hlt _ e.symm).2
      omega
  refine ⟨ho, by rw [List.length_append, h.len]; rfl, ?_, fun z hz => ?_, h2.bel.grown hg hsz fun j hj => (hlt j hj).1⟩
  · rw [List.map_append, h.row, List.take_add_one, hx, List.filter_append]
    simp [hw, hyp]
  · obtain ⟨h3, h4⟩ := hins z hz
    refine ⟨kn_grown h3 hg h4, fun hl p hp => ?_⟩
    rcases hat with e | e
    · rw [e]; exact h4 hl p hp
    · rw [e]
      intro e'
      have h5 := h3.lies
      rw [hp] at h5
      have := rw_lt h5 hl
      injection e' with e'
      omega

set_option maxRecDepth 100000 in
set_option maxHeartbeats 4000000 in
theorem forget_any (odd : Int → Bool) (g : FuncId) (es : Array Value) (hge : ∀ args W, (callFunc g args).run Tryz.prog W = .ok (.enter g args) W) (A : Option Addr) (ps : List Kp) (cap : Nat) (w : World) (h : Ks w A ps) (hcap : ps.length ≤ cap) (hbd : Bd ps) (hw : ∀ x ∈ ps, ∀ W, Below w.heap.size w W → Calls Tryz.prog g (#[.int .u32 x.a] ++ es) W fun e w' => e = .returned (.bool (odd x.a)) ∧ Below W.heap.size W w') :
    Calls Tryz.prog 99 #[.slice A ps.length cap, .func (.func g) #[] es] w (KPost w (ps.filter fun x => wB odd x.a)) := by
  have hln := h.len
  have R := Lib.hid h
  have HBD := Lib.hid hbd
  have HWC := Lib.hid hw
  have HGE := Lib.hid hge
  obtain ⟨L, hL⟩ : ∃ L, ps.length = L := ⟨_, rfl⟩
  have HL := Lib.hid hL
  rw [hL] at hcap hln ⊢
  have hL9 : L ≤ 1000 := by rw [← hL]; exact hbd.1
  clear h hbd hw hge hL
  go_enter Tryz.func99, Tryz.ntmps99
  go_wp2_with fail
  go_loopw [5, 10] (fun v i wr => ∃ (k n : Nat) (ys : List Kn), i = .int .i64 k ∧ k ≤ L ∧ n ≤ k ∧ Hid (Fg w ps odd k v n ys wr)) (fun _ i _ => L - (intOf i).toNat)
  case atStart => exact ⟨0, 0, [], rfl, by omega, by omega, Lib.hid ⟨World.ownsRow_nil _ _ _ _, rfl, by simp, fun y hy => by simp at hy, Below.refl _ _⟩⟩
  case round =>
    obtain ⟨k, n, ys, rfl, hk, hnk, HH⟩ := hrel
    by_cases hlt : k < L
    · obtain ⟨x, hx⟩ : ∃ x, ps[k]? = some x := ⟨_, List.getElem?_eq_getElem (by rw [HL.out]; exact hlt)⟩
      obtain ⟨y, P, c, rfl, hin, hat⟩ := (R.out.below HH.out.bel).kn hx
      have hA1 : Below wr.heap.size wr (wr.alloc (.cells #[.int .u32 x.a, .slice P x.ss.length c] 66)) := (Below.refl _ wr).alloc (Nat.le_refl _) _
      have HF1 := Lib.hid (HH.out.below hA1)
      have HX := Lib.hid (show oneX wr.heap.size x.a P c x.ss.length x.ss (wr.alloc (.cells #[.int .u32 x.a, .slice P x.ss.length c] 66)) from ⟨by simp, by simp, by simp, hin.lies.below hA1⟩)
      have hxl : x.ss.length ≤ 1000000 := Nat.le_trans (HBD.out.2 x (List.mem_of_getElem? hx)) (by omega)
      have HCL := Lib.hid fun W (hW : Rw eS W P x.ss) => cloneS_any P x.ss c W hW hxl hin.le
      have HWN := Lib.hid (HWC.out x (List.mem_of_getElem? hx) _ (hA1.mono HH.out.bel.size |> HH.out.bel.trans))
      have HXA := Lib.hid (show 0 ≤ x.a ∧ x.a < 4294967296 from ⟨hin.a0, hin.a1⟩)
      have HXL := Lib.hid hxl
      have HKX := Lib.hid hx
      obtain ⟨WB, hWB⟩ : ∃ WB, odd x.a = WB := ⟨_, rfl⟩
      have HWB := Lib.hid hWB
      rw [hWB] at HWN
      obtain ⟨xa, xs⟩ := x
      dsimp only at HF1 HX HCL HWN HXA HXL HWB
      clear hin hx hxl hA1 HH hWB
      go_wp2_with (refine at_load53 _ rfl rfl _ _ rfl hat ?_)
      have HNX := Lib.hid (show wr.heap.size < (wr.alloc (.cells #[.int .u32 xa, .slice P xs.length c] 66)).heap.size by simp)
      generalize wr.alloc (.cells #[.int .u32 xa, .slice P xs.length c] 66) = W1 at *
      generalize wr.heap.size = NN at *
      obtain ⟨M, hM⟩ : ∃ M, xs.length = M := ⟨_, rfl⟩
      have HM := Lib.hid hM
      rw [hM] at HX HCL ⊢
      clear hM hat
      rw [HGE.out, Oper.upon_enter]
      refine HWN.out.mono ?_
      rintro e w2 ⟨rfl, hb2⟩
      replace HF1 := Lib.hid (HF1.out.below hb2)
      replace HX := Lib.hid (show oneX NN xa P c M xs w2 from ⟨Nat.lt_of_lt_of_le HX.out.1 hb2.size, oneX_below HX.out hb2⟩)
      replace HNX := Lib.hid (Nat.lt_of_lt_of_le HNX.out hb2.size)
      clear HWN hb2
      cases WB
      · go_wp2_with fail
        go_roundw
        case rel => exact ⟨k + 1, n, ys, by go_num, by omega, by omega, Lib.hid (HF1.out.no HKX.out HWB.out)⟩
        case measure => simp [intOf]; omega
      · go_wp2_with fail
        refine wp_region_below_tail 8 [fx u5, fx (.pointer (some ⟨NN, 0, none⟩)), fx (.int .u32 xa), fx (.pointer (some ⟨NN, 1, none⟩)), fx (.slice P M c), sG w2.heap.size xs, bG w2.heap.size xa xs, kG w2.heap.size xa xs]
          (by kernel_rfl) (by simp) (by kernel_rfl) (by kernel_rfl) (by kernel_rfl) ?_ ?_ ?_
        · simp only [List.mem_cons, List.not_mem_nil, or_false]
          rintro φ (rfl | rfl | rfl | rfl | rfl | rfl | rfl | rfl)
          all_goals first | exact stable_fx _ | exact stable_fr _ _ | exact stable_sG _ _ | exact stable_bG _ _ _ | exact stable_kG _ _ _
        · refine OgSteps.cons ?_ (OgSteps.cons ?_ (OgSteps.cons ?_ (OgSteps.cons ?_ (OgSteps.cons ?_ (OgSteps.cons ?_ (OgSteps.cons ?_ (OgSteps.cons ?_ (OgSteps.nil))))))))
          · refine OgStep.pure ?_ ?_
            · rfl
            intro u W hS hp
            refine ⟨u5, ?_, rfl⟩
            simp only [ogMk, Act.put, List.setIfInBounds_toArray, List.set_cons_zero, List.set_cons_succ, Nat.zero_add, Nat.reduceAdd, List.take_succ_cons, List.take_zero, List.drop_succ_cons, List.drop_zero]
            simp [execOp, Act.eval, go_sem]
          · refine OgStep.pure ?_ ?_
            · rfl
            intro u W hS hp
            refine ⟨.pointer (some ⟨NN, 0, none⟩), ?_, rfl⟩
            simp only [ogMk, Act.put, List.setIfInBounds_toArray, List.set_cons_zero, List.set_cons_succ, Nat.zero_add, Nat.reduceAdd, List.take_succ_cons, List.take_zero, List.drop_succ_cons, List.drop_zero]
            simp [execOp, Act.eval, go_sem]
          · refine OgStep.pure ?_ ?_
            · rfl
            intro u W hS hp
            have h1 : u 1 = .pointer (some ⟨NN, 0, none⟩) := hp ⟨1, .data⟩ (by simp) rfl
            have X := oneX_below HX.out hS
            have R := X.1
            refine ⟨.int .u32 xa, ?_, rfl⟩
            simp only [ogMk, Act.put, List.setIfInBounds_toArray, List.set_cons_zero, List.set_cons_succ, Nat.zero_add, Nat.reduceAdd, List.take_succ_cons, List.take_zero, List.drop_succ_cons, List.drop_zero]
            simp [execOp, Act.eval, go_sem, h1, R]
          · refine OgStep.pure ?_ ?_
            · rfl
            intro u W hS hp
            refine ⟨.pointer (some ⟨NN, 1, none⟩), ?_, rfl⟩
            simp only [ogMk, Act.put, List.setIfInBounds_toArray, List.set_cons_zero, List.set_cons_succ, Nat.zero_add, Nat.reduceAdd, List.take_succ_cons, List.take_zero, List.drop_succ_cons, List.drop_zero]
            simp [execOp, Act.eval, go_sem]
          · refine OgStep.pure ?_ ?_
            · rfl
            intro u W hS hp
            have h3 : u 3 = .pointer (some ⟨NN, 1, none⟩) := hp ⟨3, .data⟩ (by simp) rfl
            have X := oneX_below HX.out hS
            have R := X.2.1
            refine ⟨.slice P M c, ?_, rfl⟩
            simp only [ogMk, Act.put, List.setIfInBounds_toArray, List.set_cons_zero, List.set_cons_succ, Nat.zero_add, Nat.reduceAdd, List.take_succ_cons, List.take_zero, List.drop_succ_cons, List.drop_zero]
            simp [execOp, Act.eval, go_sem, h3, R]
          · refine OgStep.calls ?_ ?_
            · rfl
            intro u W hS hp
            have h4 : u 4 = .slice P M c := hp ⟨4, .data⟩ (by simp) rfl
            refine ⟨53, #[.slice P M c], ?_, calls_sG (HCL.out W (oneX_below HX.out hS).2.2) hS.size HXL.out rfl⟩
            simp only [ogMk, Act.put, List.setIfInBounds_toArray, List.set_cons_zero, List.set_cons_succ, Nat.zero_add, Nat.reduceAdd, List.take_succ_cons, List.take_zero, List.drop_succ_cons, List.drop_zero]
            simp [execOp, Act.eval, go_sem, h4]
          · refine OgStep.pure ?_ ?_
            · rfl
            intro u W hS hp
            obtain ⟨A5, c5, h5, hc5, hm5, hR5, hp5⟩ : sG w2.heap.size xs (u 5) W := hp ⟨5, .data⟩ (by simp) rfl
            have h2 : u 2 = .int .u32 xa := hp ⟨2, .data⟩ (by simp) rfl
            refine ⟨.agg #[.int .u32 xa, .slice A5 xs.length c5], ?_, ⟨A5, c5, rfl, hc5, hm5, hR5, hp5⟩⟩
            simp only [ogMk, Act.put, List.setIfInBounds_toArray, List.set_cons_zero, List.set_cons_succ, Nat.zero_add, Nat.reduceAdd, List.take_succ_cons, List.take_zero, List.drop_succ_cons, List.drop_zero]
            rw [h2, h5]
            simp [execOp, Act.eval, go_sem]
          · refine OgStep.made ?_ ?_
            · rfl
            intro u W hS hp
            obtain ⟨A6, c6, h6, hc6, hm6, hR6, hp6⟩ : bG w2.heap.size xa xs (u 6) W := hp ⟨6, .data⟩ (by simp) rfl
            have hI : (⟨xa, A6, c6, xs⟩ : Kn).In W := ⟨HXA.out.1, HXA.out.2, hR6, hc6, hm6⟩
            refine ⟨.slice (some ⟨W.heap.size, 0, none⟩) 1 1, _, ?_, (Below.refl _ W).alloc (Nat.le_refl _) _, ⟨_, _, ⟨xa, A6, c6, xs⟩, rfl, rwK_one W ⟨xa, A6, c6, xs⟩, hI.below ((Below.refl _ W).alloc (Nat.le_refl _) _), rfl, hp6⟩⟩
            simp only [ogMk, Act.put, List.setIfInBounds_toArray, List.set_cons_zero, List.set_cons_succ, Nat.zero_add, Nat.reduceAdd, List.take_succ_cons, List.take_zero, List.drop_succ_cons, List.drop_zero]
            rw [h6]
            simp [execOp, Act.eval, go_sem]
        · intro u W hS hF'
          have hF := hF'
          have e0 : u 0 = u5 := hF 0 (by decide)
          have e1 : u 1 = .pointer (some ⟨NN, 0, none⟩) := hF 1 (by decide)
          have e2 : u 2 = .int .u32 xa := hF 2 (by decide)
          have e3 : u 3 = .pointer (some ⟨NN, 1, none⟩) := hF 3 (by decide)
          have e4 : u 4 = .slice P M c := hF 4 (by decide)
          simp only [ogMk, Act.put, List.setIfInBounds_toArray, List.set_cons_zero, List.set_cons_succ, Nat.zero_add, Nat.reduceAdd, List.take_succ_cons, List.take_zero, List.drop_succ_cons, List.drop_zero]
          rw [e0, e1, e2, e3, e4]
          clear e0 e1 e2 e3 e4 hF
          obtain ⟨A7, c7, z, e7, hR7, hz7, hp7, hb7⟩ : kG w2.heap.size xa xs (u 7) W := hF' 7 (by decide)
          obtain ⟨A6, c6, e6, _⟩ : bG w2.heap.size xa xs (u 6) W := hF' 6 (by decide)
          obtain ⟨A5, c5, e5, _⟩ : sG w2.heap.size xs (u 5) W := hF' 5 (by decide)
          rw [e5, e6, e7]
          have HS := Lib.hid hS
          have HR7 := Lib.hid (show Rw eK W A7 [z] ∧ z.In W ∧ z.p = ⟨xa, xs⟩ ∧ (∀ p, z.P = some p → w2.heap.size ≤ p.block) from ⟨hR7, hz7, hp7, hb7⟩)
          have HF2 := Lib.hid (HF1.out.below hS)
          clear hF' e5 e6 e7 hS hR7 hz7 hp7 hb7
          refine wpList_append_at W rfl (.tmp 18) (.tmp 25) rfl w.heap.size u5 n ys (by simp [Act.eval, Act.put]) HF2.out.own A7 c7 z (by simp [Act.eval, Act.put]) HR7.out.1 (by omega) HF2.out.bel.size ?_
          intro v3 w3 ho3 hg3 hat3
          have HF3 := Lib.hid (HF1.out.yes HS.out HKX.out HWB.out HR7.out.2.1 HR7.out.2.2.1 HR7.out.2.2.2 ho3 hg3 hat3)
          clear ho3 hg3 hat3 HF2 HS HR7 HF1 HX HCL
          go_wp2_with fail
          go_roundw
          case rel => exact ⟨k + 1, n + 1, ys ++ [z], by go_num, by omega, by omega, HF3⟩
          case measure => simp [intOf]; omega
    · obtain rfl : k = L := by omega
      have hF := HH.out
      have htk : ps.take k = ps := by rw [← HL.out, List.take_length]
      have hrow : ys.map Kn.p = ps.filter fun x => wB odd x.a := by rw [hF.row, htk]
      have hyl : ys.length = (ps.filter fun x => wB odd x.a).length := by rw [← hrow, List.length_map]
      obtain ⟨A3, c3, he, hc3, hm3, -, hr3, -⟩ := own_rw (E := eK) hF.own (by rw [hF.len]; omega)
      have HFN := Lib.hid (show kF (ps.filter fun x => wB odd x.a) u5 wr from ⟨A3, c3, by rw [he, hyl], by omega, hm3, ys, hrow, hr3, fun y hy => (hF.ins y hy).1⟩)
      have HB := Lib.hid hF.bel
      clear hF htk hrow hyl he hc3 hm3 hr3
      go_wp2_with fail
      go_ret
      exact ⟨_, rfl, HB.out, HFN.out⟩
end Go.Proofs.YtilneflfeegnfaaGreat.Sn

/-
  The contracts of the statements' own same, of seen's rightSights and Right, and of the statements' own right. Conditions: the rows lie in memory.
-/
set_option linter.unusedSimpArgs false
set_option linter.unusedVariables false
namespace Go.Proofs.YtilneflfeegnfaaGreat.Sn
open Go.RowKit

instance : DecidableEq Sg := fun x y => if h : eqs x y = true then .isTrue ((eqs_iff x y).1 h) else .isFalse fun e => h ((eqs_iff x y).2 e)
/-- Whether two rows of sightings are the same; up to the first k. -/
def sameB (xs ys : List Sg) : Bool := decide (xs = ys)
theorem same_len {xs ys : List Sg} (h : xs.length ≠ ys.length) : sameB xs ys = false := decide_eq_false fun e => h (by rw [e])
theorem same_at {xs ys : List Sg} {k : Nat} {x y : Sg} (hx : xs[k]? = some x) (hy : ys[k]? = some y) (h : eqs x y = false) : sameB xs ys = false := decide_eq_false fun e => by
  subst e
  rw [hx] at hy
  injection hy with hy
  subst hy
  rw [eqs_self] at h
  cases h
theorem same_all {xs ys : List Sg} (hl : xs.length = ys.length) (h : xs.take xs.length = ys.take xs.length) : sameB xs ys = true := decide_eq_true (by
  rw [List.take_length, hl, List.take_length] at h
  exact h)
theorem take_snoc {xs ys : List Sg} {k : Nat} {x y : Sg} (h : xs.take k = ys.take k) (hx : xs[k]? = some x) (hy : ys[k]? = some y) (he : eqs x y = true) : xs.take (k + 1) = ys.take (k + 1) := by
  rw [List.take_add_one, List.take_add_one, h, hx, hy, (eqs_iff x y).1 he]

/-- Whether a sighting stands right among its kind; the first k do; all. -/
def pt (ss : List Sg) : Nat → Int
  | 0 => 0
  | i + 1 => (ss[i]?.getD zs).t
def sOk (ss : List Sg) (i : Nat) : Bool := match ss[i]? with
  | some x => isrc x.f && decide (pt ss i ≤ x.t)
  | none => true
def rsP (ss : List Sg) (k : Nat) : Bool := (List.range k).all (sOk ss)
def rsB (ss : List Sg) : Bool := decide (1 ≤ ss.length ∧ ss.length ≤ 8) && rsP ss ss.length
theorem rsP_zero (ss : List Sg) : rsP ss 0 = true := rfl
theorem rsP_succ (ss : List Sg) (k : Nat) : rsP ss (k + 1) = (rsP ss k && sOk ss k) := by
  unfold rsP
  rw [List.range_succ, List.all_append]
  simp
theorem rsP_false (ss : List Sg) (k n : Nat) (h : rsP ss k = false) (hk : k ≤ n) : rsP ss n = false := by
  induction hk with
  | refl => exact h
  | step h1 ih => rw [rsP_succ, ih]; rfl

set_option maxRecDepth 100000 in
set_option maxHeartbeats 4000000 in
theorem rights_any (A : Option Addr) (ss : List Sg) (c : Nat) (w : World) (h : Rw eS w A ss) (hc : ss.length ≤ c) :
    Calls Tryz.prog 86 #[.slice A ss.length c] w fun e w' => e = .returned (.bool (rsB ss)) ∧ Below w.heap.size w w' := by
  have hln := h.1
  have R := Lib.hid h
  by_cases hl : 1 ≤ ss.length ∧ ss.length ≤ 8
  · have HF := Lib.hid (show rsB ss = rsP ss ss.length by simp [rsB, hl.1, hl.2])
    obtain ⟨L, hL⟩ : ∃ L, ss.length = L := ⟨_, rfl⟩
    have HL := Lib.hid hL
    rw [hL] at hc hln HF hl ⊢
    have hl0 : ¬ (L : Int) = 0 := by omega
    have hl8 : ¬ (8 : Int) < L := by omega
    clear hL h
    go_enter Tryz.func86, Tryz.ntmps86
    go_wp2_with fail
    go_loopw [3, 16] (fun v i wr => ∃ k : Nat, i = .int .i64 k ∧ k ≤ L ∧ v = .int .i64 (pt ss k) ∧ Hid (rsP ss k = true ∧ Below w.heap.size w wr)) (fun _ i _ => L - (intOf i).toNat)
    case atStart => exact ⟨0, rfl, by omega, rfl, Lib.hid ⟨rsP_zero _, Below.refl _ _⟩⟩
    case round =>
      obtain ⟨k, rfl, hk, rfl, HH⟩ := hrel
      by_cases hlt : k < L
      · obtain ⟨x, hx⟩ : ∃ x, ss[k]? = some x := ⟨_, List.getElem?_eq_getElem (by rw [HL.out]; exact hlt)⟩
        obtain ⟨y, rfl⟩ := rw_some R.out (by rw [HL.out]; omega)
        have hat : ∀ j v, (sl x)[j]? = some v → wr.cell? ((y.add (k * 8)).add j) = some v := (R.out.below HH.out.2).at hx
        have HS := Lib.hid (rsP_succ ss k)
        have HN := Lib.hid (rsP_false ss (k + 1) L)
        have HM := Lib.hid fun W => src_any x.f W
        have HP1 := Lib.hid (show pt ss (k + 1) = x.t by simp [pt, hx])
        have hO : sOk ss k = (isrc x.f && decide (pt ss k ≤ x.t)) := by simp [sOk, hx]
        generalize pt ss k = T at *
        cases hY : isrc x.f
        · have HO := Lib.hid (show sOk ss k = false by rw [hO, hY]; rfl)
          rw [hY] at HM
          obtain ⟨xf, x0, x1, x2, x3, x4, x5, xt⟩ := x
          clear hx hY hO
          go_wp2_with (refine at_load35 _ rfl rfl _ _ rfl hat ?_)
          refine (HM.out _).mono ?_
          rintro e w1 ⟨rfl, rfl⟩
          go_wp2_with fail
          go_ret
          exact ⟨ret_bool (by rw [HF.out, HN.out (by rw [HS.out, HO.out]; simp) (by omega)]), HH.out.2.alloc HH.out.2.size _⟩
        · rw [hY] at HM
          by_cases ht : x.t < T
          · have HO := Lib.hid (show sOk ss k = false by rw [hO, hY]; simp; omega)
            obtain ⟨xf, x0, x1, x2, x3, x4, x5, xt⟩ := x
            dsimp only at ht
            clear hx hY hO
            go_wp2_with (refine at_load35 _ rfl rfl _ _ rfl hat ?_)
            refine (HM.out _).mono ?_
            rintro e w1 ⟨rfl, rfl⟩
            go_wp2_with fail
            go_ret
            exact ⟨ret_bool (by rw [HF.out, HN.out (by rw [HS.out, HO.out]; simp) (by omega)]), HH.out.2.alloc HH.out.2.size _⟩
          · have HO := Lib.hid (show sOk ss k = true by rw [hO, hY]; simp; omega)
            obtain ⟨xf, x0, x1, x2, x3, x4, x5, xt⟩ := x
            dsimp only at ht HP1
            clear hx hY hO
            go_wp2_with (refine at_load35 _ rfl rfl _ _ rfl hat ?_)
            refine (HM.out _).mono ?_
            rintro e w1 ⟨rfl, rfl⟩
            go_wp2_with fail
            go_roundw
            case rel => exact ⟨k + 1, by go_num, by omega, by rw [HP1.out], Lib.hid ⟨by rw [HS.out, HH.out.1, HO.out]; rfl, HH.out.2.alloc HH.out.2.size _⟩⟩
            case measure => simp [intOf]; omega
      · obtain rfl : k = L := by omega
        go_wp2_with fail
        go_ret
        exact ⟨ret_bool (by rw [HF.out, HH.out.1]), HH.out.2⟩
  · have HF := Lib.hid (show rsB ss = false by simp only [rsB, hl, decide_false, Bool.false_and])
    have hl2 : (ss.length : Int) = 0 ∨ ¬ (ss.length : Int) = 0 ∧ (8 : Int) < ss.length := by omega
    clear hl h
    generalize ss.length = L at *
    rcases hl2 with h0 | ⟨h0, h8⟩
    · go_enter Tryz.func86, Tryz.ntmps86
      go_wp2_with fail
      go_ret
      exact ⟨ret_bool HF.out.symm, Below.refl _ _⟩
    · go_enter Tryz.func86, Tryz.ntmps86
      go_wp2_with fail
      go_ret
      exact ⟨ret_bool HF.out.symm, Below.refl _ _⟩
end Go.Proofs.YtilneflfeegnfaaGreat.Sn

/-
  The contracts of seen.Right and of the statements' own right. Conditions: the row lies in memory.
-/
set_option linter.unusedSimpArgs false
set_option linter.unusedVariables false
namespace Go.Proofs.YtilneflfeegnfaaGreat.Sn
open Go.RowKit

/-- Whether an address stands right in its row. -/
def kOk (ps : List Kp) (i : Nat) : Bool := match ps[i]? with
  | some x => (i == 0 || (match ps[i - 1]? with
    | some y => decide (y.a < x.a)
    | none => false)) && rsB x.ss
  | none => true
def kPre (ps : List Kp) (k : Nat) : Bool := (List.range k).all (kOk ps)
def rightB (ps : List Kp) : Bool := decide (ps.length ≤ 96) && kPre ps ps.length
theorem kPre_zero (ps : List Kp) : kPre ps 0 = true := rfl
theorem kPre_succ (ps : List Kp) (k : Nat) : kPre ps (k + 1) = (kPre ps k && kOk ps k) := by
  unfold kPre
  rw [List.range_succ, List.all_append]
  simp
theorem kPre_false (ps : List Kp) (k n : Nat) (h : kPre ps k = false) (hk : k ≤ n) : kPre ps n = false := by
  induction hk with
  | refl => exact h
  | step h1 ih => rw [kPre_succ, ih]; rfl

set_option maxRecDepth 100000 in
set_option maxHeartbeats 4000000 in
theorem right_any (A : Option Addr) (ps : List Kp) (cap : Nat) (w : World) (h : Ks w A ps) (hc : ps.length ≤ cap) :
    Calls Tryz.prog 39 #[.slice A ps.length cap] w fun e w' => e = .returned (.bool (rightB ps)) ∧ Below w.heap.size w w' := by
  have hln := h.len
  have R := Lib.hid h
  by_cases h96 : 96 < ps.length
  · have HF := Lib.hid (show rightB ps = false by simp [rightB]; omega)
    have h96' : (96 : Int) < ps.length := by omega
    clear h
    generalize ps.length = L at *
    go_enter Tryz.func39, Tryz.ntmps39
    go_wp2_with fail
    go_ret
    exact ⟨by rw [HF.out]; rfl, Below.refl _ _⟩
  · have HF := Lib.hid (show rightB ps = kPre ps ps.length by simp [rightB]; omega)
    have h96' : ¬ (96 : Int) < ps.length := by omega
    clear h
    obtain ⟨L, hL⟩ : ∃ L, ps.length = L := ⟨_, rfl⟩
    have HL := Lib.hid hL
    rw [hL] at hc hln h96 h96' HF ⊢
    clear hL
    go_enter Tryz.func39, Tryz.ntmps39
    go_wp2_with fail
    go_loopw [10] (fun i wr => ∃ k : Nat, i = .int .i64 k ∧ k ≤ L ∧ Hid (kPre ps k = true ∧ Below w.heap.size w wr)) (fun i _ => L - (intOf i).toNat)
    case atStart => exact ⟨0, rfl, by omega, Lib.hid ⟨kPre_zero _, Below.refl _ _⟩⟩
    case round =>
      obtain ⟨k, rfl, hk, HH⟩ := hrel
      by_cases hlt : k < L
      · obtain ⟨x, hx⟩ : ∃ x, ps[k]? = some x := ⟨_, List.getElem?_eq_getElem (by rw [HL.out]; exact hlt)⟩
        obtain ⟨y, P, c, rfl, hin, hat⟩ := (R.out.below HH.out.2).kn hx
        have HS := Lib.hid (kPre_succ ps k)
        have HN := Lib.hid (kPre_false ps (k + 1) L)
        have HA1 : Below wr.heap.size wr (wr.alloc (.cells #[.int .u32 x.a, .slice P x.ss.length c] 66)) := (Below.refl _ wr).alloc (Nat.le_refl _) _
        have HM := Lib.hid fun W (hW : Below (wr.alloc (.cells #[.int .u32 x.a, .slice P x.ss.length c] 66)).heap.size (wr.alloc (.cells #[.int .u32 x.a, .slice P x.ss.length c] 66)) W) => rights_any P x.ss c W ((hin.lies.below HA1).below hW) hin.le
        have HB1 := Lib.hid (bthen HH.out.2 HA1 HH.out.2.size)
        have X0 : 0 ≤ x.a := hin.a0
        have X1 : x.a < 4294967296 := hin.a1
        have b0 : (wr.alloc (.cells #[.int .u32 x.a, .slice P x.ss.length c] 66)).cell? ⟨wr.heap.size, 0, none⟩ = some (.int .u32 x.a) := by simp
        have b1 : (wr.alloc (.cells #[.int .u32 x.a, .slice P x.ss.length c] 66)).cell? ⟨wr.heap.size, 1, none⟩ = some (.slice P x.ss.length c) := by simp
        rcases k with _ | j
        · have HO := Lib.hid (show kOk ps 0 = rsB x.ss by simp [kOk, hx])
          obtain ⟨xa, xs⟩ := x
          clear hx hin
          go_wp2_with (refine at_load53 _ rfl rfl _ _ rfl hat ?_)
          go_upto_region 6 with fail
          clear hat
          generalize wr.alloc (.cells #[.int .u32 xa, .slice P xs.length c] 66) = W1 at *
          generalize wr.heap.size = N1 at *
          replace b0 := cell_regrown b0
          replace b1 := cell_regrown b1
          skip
          cases hY : rsB xs
          · have HY := Lib.hid hY
            rw [hY] at HM
            clear hY
            have CM := Lib.hid fun (d : Nat) (os : Array Obj) => Calls.regrown_of (HM.out (Sort.grow (redrawn W1 d) os) (below_regrown W1 d os))
            refine wp_region_quiet_below (by kernel_rfl) (by kernel_rfl) ?_
            repeat (go_big_quiet_step ((go_at_call 86; (with_reducible exact CM.out _ _))))
            refine wpQuiet_nil ?_
            rintro w7 ⟨⟨dq, osq⟩, rfl⟩
            have HB7 := Lib.hid (bthen HB1.out (below_regrown W1 dq osq) HB1.out.size)
            clear b0 b1 CM HM HB1
            generalize Sort.grow (redrawn W1 dq) osq = W7 at *
            go_wp2_with fail
            go_ret
            exact ⟨ret_bool (by rw [HF.out, HN.out (by rw [HS.out, HO.out, HY.out]; simp) (by omega)]), HB7.out⟩
          · have HY := Lib.hid hY
            rw [hY] at HM
            clear hY
            have CM := Lib.hid fun (d : Nat) (os : Array Obj) => Calls.regrown_of (HM.out (Sort.grow (redrawn W1 d) os) (below_regrown W1 d os))
            refine wp_region_quiet_below (by kernel_rfl) (by kernel_rfl) ?_
            repeat (go_big_quiet_step ((go_at_call 86; (with_reducible exact CM.out _ _))))
            refine wpQuiet_nil ?_
            rintro w7 ⟨⟨dq, osq⟩, rfl⟩
            have HB7 := Lib.hid (bthen HB1.out (below_regrown W1 dq osq) HB1.out.size)
            clear b0 b1 CM HM HB1
            generalize Sort.grow (redrawn W1 dq) osq = W7 at *
            go_wp2_with fail
            go_roundw
            case rel => exact ⟨1, by go_num, by omega, Lib.hid ⟨by rw [HS.out, HH.out.1, HO.out, HY.out]; rfl, HB7.out⟩⟩
            case measure => simp [intOf]; omega
        · obtain ⟨z, hz⟩ : ∃ z, ps[j]? = some z := ⟨_, List.getElem?_eq_getElem (by rw [HL.out]; omega)⟩
          obtain ⟨y', P', c', hy', hin', hat'⟩ := (R.out.below HH.out.2).kn hz
          obtain rfl : y = y' := by injection hy'
          have c0 : (wr.alloc (.cells #[.int .u32 x.a, .slice P x.ss.length c] 66)).cell? (y.add (j * 2)) = some (.int .u32 z.a) := by
            have h0 := hat' 0 _ rfl
            rw [Addr.add_add, Nat.add_zero] at h0
            rw [HA1.cell (World.block_lt_of_cell? _ _ h0)]
            exact h0
          have hO : kOk ps (j + 1) = (decide (z.a < x.a) && rsB x.ss) := by simp [kOk, hx, hz]
          have hj : IntKind.i64.wrap (j : Int) = (j : Int) := i64_nat (by omega)
          have hjL : (j : Int) < L := by omega
          clear hat' hy' hin'
          by_cases hlt2 : z.a < x.a
          · have HO := Lib.hid (show kOk ps (j + 1) = rsB x.ss by rw [hO, decide_eq_true hlt2]; rfl)
            have hle2 : ¬ x.a ≤ z.a := by omega
            obtain ⟨xa, xs⟩ := x
            dsimp only at hle2
            have hle3 : decide (xa ≤ z.a) = false := decide_eq_false hle2
            clear hx hz hO hin
            go_wp2_with (refine at_load53 _ rfl rfl _ _ rfl hat ?_)
            go_upto_region 6 with fail
            clear hat
            generalize wr.alloc (.cells #[.int .u32 xa, .slice P xs.length c] 66) = W1 at *
            generalize wr.heap.size = N1 at *
            replace b0 := cell_regrown b0
            replace b1 := cell_regrown b1
            replace c0 := cell_regrown c0
            cases hY : rsB xs
            · have HY := Lib.hid hY
              rw [hY] at HM
              clear hY
              have CM := Lib.hid fun (d : Nat) (os : Array Obj) => Calls.regrown_of (HM.out (Sort.grow (redrawn W1 d) os) (below_regrown W1 d os))
              refine wp_region_quiet_below (by kernel_rfl) (by kernel_rfl) ?_
              repeat (go_big_quiet_step ((go_at_call 86; (with_reducible exact CM.out _ _))))
              refine wpQuiet_nil ?_
              rintro w7 ⟨⟨dq, osq⟩, rfl⟩
              have HB7 := Lib.hid (bthen HB1.out (below_regrown W1 dq osq) HB1.out.size)
              clear b0 b1 c0 CM HM HB1
              generalize Sort.grow (redrawn W1 dq) osq = W7 at *
              go_wp2_with fail
              go_ret
              exact ⟨ret_bool (by rw [HF.out, HN.out (by rw [HS.out, HO.out, HY.out]; simp) (by omega)]), HB7.out⟩
            · have HY := Lib.hid hY
              rw [hY] at HM
              clear hY
              have CM := Lib.hid fun (d : Nat) (os : Array Obj) => Calls.regrown_of (HM.out (Sort.grow (redrawn W1 d) os) (below_regrown W1 d os))
              refine wp_region_quiet_below (by kernel_rfl) (by kernel_rfl) ?_
              repeat (go_big_quiet_step ((go_at_call 86; (with_reducible exact CM.out _ _))))
              refine wpQuiet_nil ?_
              rintro w7 ⟨⟨dq, osq⟩, rfl⟩
              have HB7 := Lib.hid (bthen HB1.out (below_regrown W1 dq osq) HB1.out.size)
              clear b0 b1 c0 CM HM HB1
              generalize Sort.grow (redrawn W1 dq) osq = W7 at *
              go_wp2_with fail
              go_roundw
              case rel => exact ⟨j + 2, by go_num, by omega, Lib.hid ⟨by rw [HS.out, HH.out.1, HO.out, HY.out]; rfl, HB7.out⟩⟩
              case measure => simp [intOf]; omega
          · have HO := Lib.hid (show kOk ps (j + 1) = false by rw [hO, decide_eq_false hlt2]; rfl)
            have hle2 : x.a ≤ z.a := by omega
            obtain ⟨xa, xs⟩ := x
            clear hx hz hO hin
            go_wp2_with (refine at_load53 _ rfl rfl _ _ rfl hat ?_)
            go_upto_region 6 with fail
            clear hat
            generalize wr.alloc (.cells #[.int .u32 xa, .slice P xs.length c] 66) = W1 at *
            generalize wr.heap.size = N1 at *
            replace b0 := cell_regrown b0
            replace b1 := cell_regrown b1
            replace c0 := cell_regrown c0
            refine wp_region_quiet_below (by kernel_rfl) (by kernel_rfl) ?_
            repeat (go_big_quiet_step (fail))
            refine wpQuiet_nil ?_
            rintro w7 ⟨⟨dq, osq⟩, rfl⟩
            have HB7 := Lib.hid (bthen HB1.out (below_regrown W1 dq osq) HB1.out.size)
            clear b0 b1 c0 HM HB1
            generalize Sort.grow (redrawn W1 dq) osq = W7 at *
            go_wp2_with fail
            go_ret
            exact ⟨ret_bool (by rw [HF.out, HN.out (by rw [HS.out, HO.out]; simp) (by omega)]), HB7.out⟩
      · obtain rfl : k = L := by omega
        go_wp2_with fail
        go_ret
        exact ⟨ret_bool (by rw [HF.out, HH.out.1]), HH.out.2⟩
end Go.Proofs.YtilneflfeegnfaaGreat.Sn

/-
  Rows of addresses that rise, each with sightings that are right: what one more sighting does to them, and what is forgotten. No condition but those that each theorem names.
-/
set_option linter.unusedSimpArgs false
set_option linter.unusedVariables false
namespace Go.Proofs.YtilneflfeegnfaaGreat.Sn
open Go.RowKit

/-- Sightings none of which is older than the one ahead, nor than a tick. -/
def up : Int → List Sg → Prop
  | _, [] => True
  | t, x :: r => isrc x.f = true ∧ t ≤ x.t ∧ up x.t r
def lst : Int → List Sg → Int
  | t, [] => t
  | _, x :: r => lst x.t r
def ptg (t : Int) (ss : List Sg) : Nat → Int
  | 0 => t
  | i + 1 => (ss[i]?.getD zs).t
theorem up_iff : ∀ (ss : List Sg) (t : Int), (∀ (i : Nat) (x : Sg), ss[i]? = some x → isrc x.f = true ∧ ptg t ss i ≤ x.t) ↔ up t ss
  | [], t => by simp [up]
  | y :: r, t => by
    rw [up, ← up_iff r y.t]
    constructor
    · intro h
      have h0 := h 0 y rfl
      refine ⟨h0.1, h0.2, fun i x hx => ?_⟩
      have h1 := h (i + 1) x (by simpa using hx)
      refine ⟨h1.1, ?_⟩
      cases i with
      | zero => simpa [ptg] using h1.2
      | succ i => simpa [ptg] using h1.2
    · rintro ⟨h1, h2, h3⟩ i x hx
      cases i with
      | zero =>
        simp at hx
        subst hx
        exact ⟨h1, h2⟩
      | succ i =>
        have h4 := h3 i x (by simpa using hx)
        refine ⟨h4.1, ?_⟩
        cases i with
        | zero => simpa [ptg] using h4.2
        | succ i => simpa [ptg] using h4.2
theorem pt_ptg (ss : List Sg) (i : Nat) : pt ss i = ptg 0 ss i := by cases i <;> rfl
theorem rsP_up (ss : List Sg) : rsP ss ss.length = true ↔ up 0 ss := by
  rw [← up_iff]
  unfold rsP
  rw [List.all_eq_true]
  constructor
  · intro h i x hx
    have h1 := h i (List.mem_range.2 (List.getElem?_eq_some_iff.1 hx).1)
    simp only [sOk, hx, Bool.and_eq_true, decide_eq_true_eq, pt_ptg] at h1
    exact h1
  · intro h i hi
    obtain ⟨x, hx⟩ : ∃ x, ss[i]? = some x := ⟨_, List.getElem?_eq_getElem (List.mem_range.1 hi)⟩
    simp only [sOk, hx, Bool.and_eq_true, decide_eq_true_eq, pt_ptg]
    exact h i x hx
theorem rsB_iff (ss : List Sg) : rsB ss = true ↔ (1 ≤ ss.length ∧ ss.length ≤ 8) ∧ up 0 ss := by
  unfold rsB
  rw [Bool.and_eq_true, decide_eq_true_eq, rsP_up]
theorem up_mono {t u : Int} (h : u ≤ t) : ∀ {ss : List Sg}, up t ss → up u ss
  | [], _ => trivial
  | x :: r, ⟨h1, h2, h3⟩ => ⟨h1, by omega, h3⟩
theorem up_drop : ∀ (n : Nat) (ss : List Sg) (t : Int), up t ss → up t (ss.drop n)
  | 0, ss, t, h => h
  | n + 1, [], t, h => by simp [up]
  | n + 1, x :: r, t, ⟨_, h2, h3⟩ => by
    rw [List.drop_succ_cons]
    exact up_drop n r t (up_mono h2 h3)
theorem up_snoc : ∀ (ss : List Sg) (t : Int) (s : Sg), up t ss → isrc s.f = true → lst t ss ≤ s.t → up t (ss ++ [s])
  | [], t, s, _, hf, hl => ⟨hf, hl, trivial⟩
  | x :: r, t, s, ⟨h1, h2, h3⟩, hf, hl => ⟨h1, h2, up_snoc r x.t s h3 hf hl⟩
theorem lst_tk : ∀ (ss : List Sg) (t : Int), 0 < ss.length → lst t ss = tk ss
  | [x], t, _ => rfl
  | x :: y :: r, t, _ => by
    rw [lst, lst_tk (y :: r) x.t (by simp)]
    simp [tk]
theorem up_lst : ∀ (ss : List Sg) (t : Int), up t ss → t ≤ lst t ss
  | [], t, _ => Int.le_refl _
  | x :: r, t, ⟨_, h2, h3⟩ => by
    have := up_lst r x.t h3
    rw [lst]; omega
theorem tk_drop {ss : List Sg} {n : Nat} (h : n < ss.length) : tk (ss.drop n) = tk ss := by
  unfold tk
  rw [List.length_drop, List.getElem?_drop, show n + (ss.length - n - 1) = ss.length - 1 by omega]
theorem tk_snoc (ss : List Sg) (s : Sg) : tk (ss ++ [s]) = s.t := by
  unfold tk
  rw [List.length_append, List.length_singleton, Nat.add_sub_cancel]
  simp
theorem kp_tk (ss : List Sg) (s : Sg) : tk (kp ss s) = s.t := tk_snoc _ _
theorem kp_length (ss : List Sg) (s : Sg) : (kp ss s).length = min ss.length 7 + 1 := by
  unfold kp
  rw [List.length_append, List.length_drop, List.length_singleton]
  omega
theorem kp_any (ss : List Sg) (s : Sg) : any (kp ss s) = true := by
  unfold any
  rw [kp_length]
  simp
theorem kp_last (ss : List Sg) (s : Sg) : (kp ss s)[(kp ss s).length - 1]? = some s := by
  rw [kp_length, Nat.add_sub_cancel]
  unfold kp
  rw [List.getElem?_append_right (by rw [List.length_drop]; omega), List.length_drop]
  rw [show min ss.length 7 - (ss.length - (ss.length - 7)) = 0 by omega]
  rfl
theorem kp_eq (ss : List Sg) (s : Sg) : kp ss s = (ss ++ [s]).drop ((ss ++ [s]).length - 8) := by
  unfold kp
  rw [List.length_append, List.length_singleton, show ss.length + 1 - 8 = ss.length - 7 by omega, List.drop_append_of_le_length (by omega)]
/-- One more sighting that is right, and not older, leaves sightings right. -/
theorem kp_right {ss : List Sg} {s : Sg} (h : ss = [] ∨ rsB ss = true) (hf : isrc s.f = true) (h0 : 0 ≤ s.t) (ht : any ss = true → tk ss ≤ s.t) : rsB (kp ss s) = true := by
  rw [rsB_iff, kp_length]
  refine ⟨by omega, ?_⟩
  unfold kp
  refine up_snoc _ _ _ ?_ hf ?_
  · rcases h with rfl | h
    · simp [up]
    · exact up_drop _ _ _ ((rsB_iff _).1 h).2
  · rcases Nat.eq_zero_or_pos ss.length with e | e
    · rw [List.eq_nil_of_length_eq_zero e]
      exact h0
    · rw [lst_tk _ _ (by rw [List.length_drop]; omega), tk_drop (by omega)]
      exact ht (by simp [any, e])

/-- A row that rises. -/
def Srt (ys : List Kp) : Prop := ys.Pairwise (fun x y => x.a < y.a)
theorem Srt.lt {ys : List Kp} (h : Srt ys) {i j : Nat} {x y : Kp} (hij : i < j) (hx : ys[i]? = some x) (hy : ys[j]? = some y) : x.a < y.a := by
  obtain ⟨h1, rfl⟩ := List.getElem?_eq_some_iff.1 hx
  obtain ⟨h2, rfl⟩ := List.getElem?_eq_some_iff.1 hy
  exact List.pairwise_iff_getElem.1 h i j h1 h2 hij
theorem Srt.at {ys : List Kp} (h : Srt ys) {x : Kp} (hx : x ∈ ys) : ys[lo ys x.a]? = some x := by
  obtain ⟨q, hq, rfl⟩ := List.mem_iff_getElem.1 hx
  have hx' := List.getElem?_eq_getElem hq
  have hge : ¬ q < lo ys ys[q].a := fun hlt => by
    have := lo_lt _ ys q _ hlt hx'
    omega
  have hle := lo_le ys[q].a ys
  rcases Nat.lt_or_ge (lo ys ys[q].a) q with hlt | hge2
  · exfalso
    have hlL : lo ys ys[q].a < ys.length := by omega
    obtain ⟨z, hz⟩ : ∃ z, ys[lo ys ys[q].a]? = some z := ⟨ys[lo ys ys[q].a], List.getElem?_eq_getElem hlL⟩
    have h1 := h.lt hlt hz hx'
    exact lo_ge _ ys z hz h1
  · have : lo ys ys[q].a = q := by omega
    rw [this]
    exact hx'
/-- Who is in it, and with which sightings. -/
theorem Srt.mem {ys : List Kp} (h : Srt ys) {x : Kp} (hx : x ∈ ys) : isAt ys x.a = true ∧ sg ys x.a = x.ss := by
  have e := h.at hx
  have hi : isAt ys x.a = true := by unfold isAt; rw [e]; simp
  exact ⟨hi, sg_at hi e⟩
theorem isAt_mem {ys : List Kp} {a : Int} (h : isAt ys a = true) : (⟨a, sg ys a⟩ : Kp) ∈ ys := by
  obtain ⟨x, hx, hxa, _⟩ := isAt_some h
  have : (⟨a, sg ys a⟩ : Kp) = x := by rw [sg_at h hx, ← hxa]
  rw [this]
  exact List.mem_of_getElem? hx
theorem Srt.not {ys : List Kp} (h : Srt ys) {a : Int} (hi : isAt ys a = false) : ∀ x ∈ ys, x.a ≠ a := by
  rintro x hx rfl
  rw [(h.mem hx).1] at hi
  cases hi
theorem isAt_not {ys : List Kp} {a : Int} (h : ∀ x ∈ ys, x.a ≠ a) : isAt ys a = false := by
  cases e : isAt ys a with
  | false => rfl
  | true => exact absurd rfl (h _ (isAt_mem e))
theorem take_lo {ys : List Kp} (a : Int) : ∀ x ∈ ys.take (lo ys a), x.a < a := by
  intro x hx
  obtain ⟨q, hq, rfl⟩ := List.mem_iff_getElem.1 hx
  rw [List.length_take] at hq
  rw [List.getElem_take]
  exact lo_lt a ys q _ (by omega) (List.getElem?_eq_getElem (by omega))
theorem Srt.drop_lo {ys : List Kp} (h : Srt ys) (a : Int) : ∀ x ∈ ys.drop (lo ys a), a ≤ x.a := by
  intro x hx
  obtain ⟨q, hq, rfl⟩ := List.mem_iff_getElem.1 hx
  rw [List.length_drop] at hq
  rw [List.getElem_drop]
  obtain ⟨z, hz⟩ : ∃ z, ys[lo ys a]? = some z := ⟨_, List.getElem?_eq_getElem (by omega)⟩
  have hz2 := lo_ge a ys z hz
  rcases Nat.eq_zero_or_pos q with rfl | hp
  · have := (List.getElem?_eq_some_iff.1 hz).2
    simp only [Nat.add_zero]
    rw [this]; omega
  · have := h.lt (show lo ys a < lo ys a + q by omega) hz (List.getElem?_eq_getElem (by omega))
    omega
/-- Where the row goes on behind an address. -/
def dn (ys : List Kp) (a : Int) : Nat := lo ys a + if isAt ys a = true then 1 else 0
theorem Srt.rest {ys : List Kp} (h : Srt ys) (a : Int) : ∀ x ∈ ys.drop (dn ys a), a < x.a := by
  unfold dn
  cases hi : isAt ys a with
  | false =>
    intro x hx
    simp only [Bool.false_eq_true, if_false, Nat.add_zero] at hx
    have h1 := h.drop_lo a x hx
    have h2 := h.not hi x (List.mem_of_mem_drop hx)
    omega
  | true =>
    intro x hx
    simp only [if_true] at hx
    obtain ⟨z, hz, hza, hlt⟩ := isAt_some hi
    obtain ⟨q, hq, rfl⟩ := List.mem_iff_getElem.1 hx
    rw [List.length_drop] at hq
    rw [List.getElem_drop]
    have := h.lt (show lo ys a < lo ys a + 1 + q by omega) hz (List.getElem?_eq_getElem (by omega))
    omega
theorem ins_def (ys : List Kp) (a : Int) (s : Sg) : ins ys a s = ys.take (lo ys a) ++ [⟨a, kp (sg ys a) s⟩] ++ ys.drop (dn ys a) := rfl
theorem Srt.mem_ins {ys : List Kp} (h : Srt ys) {a : Int} {s : Sg} {x : Kp} : x ∈ ins ys a s ↔ x = ⟨a, kp (sg ys a) s⟩ ∨ x ∈ ys ∧ x.a ≠ a := by
  rw [ins_def, List.mem_append, List.mem_append, List.mem_singleton]
  constructor
  · rintro ((h1 | h1) | h1)
    · have := take_lo a x h1
      exact .inr ⟨List.mem_of_mem_take h1, by omega⟩
    · exact .inl h1
    · have := h.rest a x h1
      exact .inr ⟨List.mem_of_mem_drop h1, by omega⟩
  · rintro (h1 | ⟨h1, h2⟩)
    · exact .inl (.inr h1)
    · have hx' : x ∈ ys.take (lo ys a) ++ ys.drop (lo ys a) := by rw [List.take_append_drop]; exact h1
      rcases List.mem_append.1 hx' with h3 | h3
      · exact .inl (.inl h3)
      · right
        unfold dn
        cases hi : isAt ys a with
        | false => simpa using h3
        | true =>
          obtain ⟨z, hz, hza, hlt⟩ := isAt_some hi
          rw [List.drop_eq_getElem_cons hlt] at h3
          rcases List.mem_cons.1 h3 with rfl | h3
          · exfalso
            have := (List.getElem?_eq_some_iff.1 hz).2
            rw [this] at h2
            exact h2 hza
          · simpa using h3
theorem Srt.ins {ys : List Kp} (h : Srt ys) (a : Int) (s : Sg) : Srt (ins ys a s) := by
  rw [ins_def]
  unfold Srt
  rw [List.append_assoc, List.pairwise_append]
  refine ⟨h.sublist (List.take_sublist _ _), ?_, ?_⟩
  · rw [List.singleton_append, List.pairwise_cons]
    exact ⟨fun x hx => h.rest a x hx, h.sublist (List.drop_sublist _ _)⟩
  · intro x hx y hy
    have h1 := take_lo a x hx
    rcases List.mem_append.1 hy with hy | hy
    · have : y = ⟨a, kp (sg ys a) s⟩ := by simpa using hy
      rw [this]; exact h1
    · have := h.rest a y hy
      omega
theorem ins_length (ys : List Kp) (a : Int) (s : Sg) : (ins ys a s).length = ys.length + if isAt ys a = true then 0 else 1 := by
  have := lo_le a ys
  rw [ins_def, List.length_append, List.length_append, List.length_take, List.length_drop, List.length_singleton]
  unfold dn
  cases hi : isAt ys a with
  | false => simp; omega
  | true =>
    obtain ⟨_, _, _, hlt⟩ := isAt_some hi
    simp; omega
/-- What a row with one more sighting tells. -/
theorem Srt.ins_at {ys : List Kp} (h : Srt ys) (a : Int) (s : Sg) (b : Int) : isAt (YtilneflfeegnfaaGreat.Sn.ins ys a s) b = (decide (b = a) || isAt ys b) ∧ sg (YtilneflfeegnfaaGreat.Sn.ins ys a s) b = if b = a then kp (sg ys a) s else sg ys b := by
  have hs := h.ins a s
  by_cases e : b = a
  · subst e
    obtain ⟨h1, h2⟩ := hs.mem (h.mem_ins.2 (.inl rfl))
    dsimp only at h1 h2
    rw [h1, h2]
    simp
  · rw [if_neg e, decide_eq_false e, Bool.false_or]
    cases hi : isAt ys b with
    | true =>
      obtain ⟨h1, h2⟩ := hs.mem (h.mem_ins.2 (.inr ⟨isAt_mem hi, e⟩))
      exact ⟨h1, h2⟩
    | false =>
      have : isAt (YtilneflfeegnfaaGreat.Sn.ins ys a s) b = false := isAt_not fun x hx => by
        rcases h.mem_ins.1 hx with rfl | ⟨hx, _⟩
        · exact fun e' => e e'.symm
        · exact h.not hi x hx
      exact ⟨this, by rw [sg_no this, sg_no hi]⟩

/-- A row that is right. -/
structure V (ps : List Kp) : Prop where
  srt : Srt ps
  ok : ∀ x ∈ ps, rsB x.ss = true
  le : ps.length ≤ 96
theorem V.nil : V [] := ⟨List.Pairwise.nil, fun x hx => by simp at hx, by simp⟩
theorem V.bd {ps : List Kp} (h : V ps) : Bd ps := ⟨by have := h.le; omega, fun x hx => by have := ((rsB_iff _).1 (h.ok x hx)).1.2; omega⟩
theorem V.any {ps : List Kp} (h : V ps) (a : Int) : any (sg ps a) = isAt ps a := by
  cases hi : isAt ps a with
  | false => rw [sg_no hi]; rfl
  | true =>
    have := ((rsB_iff _).1 (h.ok _ (isAt_mem hi))).1.1
    dsimp only at this
    unfold YtilneflfeegnfaaGreat.Sn.any
    exact decide_eq_true (by omega)
theorem V.sgs {ps : List Kp} (h : V ps) (a : Int) : sg ps a = [] ∨ rsB (sg ps a) = true := by
  cases hi : isAt ps a with
  | false => exact .inl (sg_no hi)
  | true => exact .inr (h.ok _ (isAt_mem hi))
theorem V.sg8 {ps : List Kp} (h : V ps) (a : Int) : (sg ps a).length ≤ 8 := by
  rcases h.sgs a with e | e
  · rw [e]; simp
  · exact ((rsB_iff _).1 e).1.2
theorem put_zero {ps : List Kp} {a : Int} {s : Sg} (h : putC ps a s = 0) : putR ps a s = ins ps a s ∧ isrc s.f = true ∧ 0 ≤ s.t ∧ (any (sg ps a) = true → tk (sg ps a) ≤ s.t) ∧ (any (sg ps a) = false → ps.length < 96) := by
  refine ⟨by unfold putR; rw [h]; rfl, ?_⟩
  unfold putC at h
  split at h
  · cases h
  · rename_i h1
    split at h
    · cases h
    · rename_i h2
      split at h
      · cases h
      · rename_i h3
        refine ⟨by simpa using h1, ?_, fun e => ?_, fun e => ?_⟩
        · exact Int.not_lt.1 fun e => h2 (.inl e)
        · exact Int.not_lt.1 fun e' => h2 (.inr ⟨e, e'⟩)
        · exact Nat.not_le.1 fun e' => h3 ⟨e, e'⟩
theorem put_yes {ps : List Kp} {a : Int} {s : Sg} (h1 : isrc s.f = true) (h2 : 0 ≤ s.t) (h3 : any (sg ps a) = true → tk (sg ps a) ≤ s.t) (h4 : any (sg ps a) = false → ps.length < 96) : putC ps a s = 0 := by
  unfold putC
  rw [if_neg (by rw [h1]; simp), if_neg, if_neg]
  · rintro ⟨e, e'⟩
    have := h4 e
    omega
  · rintro (e | ⟨e, e'⟩)
    · omega
    · have := h3 e
      omega
theorem V.put {ps : List Kp} (h : V ps) {a : Int} {s : Sg} (hp : putC ps a s = 0) : V (ins ps a s) := by
  obtain ⟨_, h1, h2, h3, h4⟩ := put_zero hp
  refine ⟨h.srt.ins a s, fun x hx => ?_, ?_⟩
  · rcases h.srt.mem_ins.1 hx with rfl | ⟨hx, _⟩
    · exact kp_right (h.sgs a) h1 h2 h3
    · exact h.ok x hx
  · rw [ins_length]
    rw [h.any] at h4
    cases hi : isAt ps a with
    | false => have := h4 hi; simp; omega
    | true => have := h.le; simp; omega
theorem V.right {ps : List Kp} (h : V ps) : rightB ps = true := by
  unfold rightB
  rw [decide_eq_true h.le, Bool.true_and]
  unfold kPre
  rw [List.all_eq_true]
  intro i hi
  obtain ⟨x, hx⟩ : ∃ x, ps[i]? = some x := ⟨_, List.getElem?_eq_getElem (List.mem_range.1 hi)⟩
  simp only [kOk, hx, h.ok x (List.mem_of_getElem? hx), Bool.and_true]
  cases i with
  | zero => rfl
  | succ i =>
    obtain ⟨y, hy⟩ : ∃ y, ps[i]? = some y := ⟨_, List.getElem?_eq_getElem (by have := List.mem_range.1 hi; omega)⟩
    simp only [Nat.add_sub_cancel, hy]
    rw [decide_eq_true (h.srt.lt (by omega) hy hx), Bool.or_true]
theorem V.filter {ps : List Kp} (h : V ps) (p : Kp → Bool) : V (ps.filter p) :=
  ⟨h.srt.sublist List.filter_sublist, fun x hx => h.ok x (List.mem_filter.1 hx).1, Nat.le_trans (List.length_filter_le _ _) h.le⟩
/-- A row that rises in so many numbers has no more. -/
theorem srt_count : ∀ (ps : List Kp) (l : Int) (n : Nat), Srt ps → (∀ x ∈ ps, l ≤ x.a ∧ x.a < l + n) → ps.length ≤ n
  | [], _, _, _, _ => by simp
  | x :: r, l, n, h, hr => by
    have h1 := hr x (List.mem_cons_self ..)
    rcases List.pairwise_cons.1 h with ⟨h2, h3⟩
    cases n with
    | zero => omega
    | succ n =>
      have := srt_count r (l + 1) n h3 fun y hy => by
        have h4 := h2 y hy
        have h5 := hr y (List.mem_cons_of_mem _ hy)
        omega
      rw [List.length_cons]; omega


end Go.Proofs.YtilneflfeegnfaaGreat.Sn

