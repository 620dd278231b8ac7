/-
  Part of the proofs of layer 18: several texts in one file. No condition of its own.
-/
import Derived.Test.YtilneflfeegnfaaGreatProg
import Derived.WalkKit
import Derived.Lib.Strings
import Derived.WalkLawsBesides
import Derived.BigQuiet
import Derived.Deep.QuietTactic
import Derived.Deep.MidRow
import Derived.Deep.CutRange
import Derived.Deep.LoopGhost
import Derived.Deep.Slices
import Derived.Deep.OwnRows
import Derived.Deep.AppendLies
import Derived.Laws.OwnMore
import Derived.Laws.AppendOwn
import Derived.Laws.ResultCell
import Derived.Laws.BitsAllLaws
import Derived.Maps.AppendAt
import Derived.RegionTactic
import Derived.OwnWalk
import Derived.Lib.Hide
import Derived.Lib.MinMax
import Derived.Lib.QuietBelow
import Derived.StillTailTactics
import Derived.Test.YtilneflfeegnfaaGreatMG
import Derived.Lib.SliceRun
/-
  A station, a sighting, and rows of them, as plain data and in memory; a choice and a holder that lie in memory; what a load and a comparison of one do. No condition.
-/
set_option linter.unusedSimpArgs false
set_option linter.unusedVariables false
namespace Go.Proofs.YtilneflfeegnfaaGreat.Su
open Go.RowKit

section
variable {α : Type} {E : El α}
end

/-- A station. -/
structure Mc where
  b0 : Int
  b1 : Int
  b2 : Int
  b3 : Int
  b4 : Int
  b5 : Int
def zm : Mc := ⟨0, 0, 0, 0, 0, 0⟩
def ml (x : Mc) : List Value := [.int .u8 x.b0, .int .u8 x.b1, .int .u8 x.b2, .int .u8 x.b3, .int .u8 x.b4, .int .u8 x.b5]
def mv (x : Mc) : Value := .agg #[.int .u8 x.b0, .int .u8 x.b1, .int .u8 x.b2, .int .u8 x.b3, .int .u8 x.b4, .int .u8 x.b5]
def Mx (x : Mc) : Obj := .cells #[.int .u8 x.b0, .int .u8 x.b1, .int .u8 x.b2, .int .u8 x.b3, .int .u8 x.b4, .int .u8 x.b5] 42
def eM : El Mc := ⟨ml, 6, by decide, fun _ => rfl, by
  intro x u hu
  simp [ml] at hu
  rcases hu with rfl | rfl | rfl | rfl | rfl | rfl <;> rfl⟩
/-- A sighting. -/
structure Sg where
  f : Int
  m : Mc
  t : Int
def zs : Sg := ⟨0, zm, 0⟩
def sl (x : Sg) : List Value := [.int .i64 x.f, .int .u8 x.m.b0, .int .u8 x.m.b1, .int .u8 x.m.b2, .int .u8 x.m.b3, .int .u8 x.m.b4, .int .u8 x.m.b5, .int .i64 x.t]
def sv (x : Sg) : Value := .agg #[.int .i64 x.f, .int .u8 x.m.b0, .int .u8 x.m.b1, .int .u8 x.m.b2, .int .u8 x.m.b3, .int .u8 x.m.b4, .int .u8 x.m.b5, .int .i64 x.t]
def Sx (x : Sg) : Obj := .cells #[.int .i64 x.f, .int .u8 x.m.b0, .int .u8 x.m.b1, .int .u8 x.m.b2, .int .u8 x.m.b3, .int .u8 x.m.b4, .int .u8 x.m.b5, .int .i64 x.t] 49
def eS : El Sg := ⟨sl, 8, by decide, fun _ => rfl, by
  intro x u hu
  simp [sl] at hu
  rcases hu with rfl | rfl | rfl | rfl | rfl | rfl | rfl | rfl <;> rfl⟩

theorem size48 : (Tryz.prog.info? 49).map (·.size) = some 8 := by kernel_rfl
theorem load48 {w : World} {y : Addr} {x : Sg} (h : ∀ j v, (sl x)[j]? = some v → w.cell? (y.add j) = some v) : (Instr.loadAt 49 (.pointer (some y))).run Tryz.prog w = .ok (sv x) w := by
  have hl' : (loadCells y 8).run Tryz.prog w = .ok (sl x).toArray w := run_loadCells_list (P := Tryz.prog) w y (sl x) h
  obtain ⟨i, hi, hs⟩ := Option.map_eq_some_iff.1 size48
  have hg : (isAgg 49).run Tryz.prog w = .ok true w := by
    unfold isAgg
    simp only [Sem.run_bind, run_underlying Tryz.underlying49, Result.andThen_ok, Sem.run_pure]
  have hz : (Go.sizeOf 49).run Tryz.prog w = .ok 8 w := by
    rw [← hs]
    simp [Go.sizeOf, typeInfo, hi]
  simp only [Instr.loadAt, Instr.sureAddr, loadVar, Sem.run_bind, Sem.run_pure, Result.andThen_ok, hg, hz, hl', if_true]
  rfl
theorem at_load48 {ops : Array Oper} {rest : List Oper} {op : Oper} {a : Act} {w : World} {Q : Exit → Act → World → Prop} (x : Operand) (hgd : op.guard = none) (ho : op.op = .load 49 x) (y : Addr) (z : Sg) (hx : a.eval x = .pointer (some y)) (hr : ∀ j v, (sl z)[j]? = some v → w.cell? (y.add j) = some v)
    (h : wpList Tryz.prog ops Q rest (a.put op.dst (.agg #[.int .i64 z.f, .int .u8 z.m.b0, .int .u8 z.m.b1, .int .u8 z.m.b2, .int .u8 z.m.b3, .int .u8 z.m.b4, .int .u8 z.m.b5, .int .i64 z.t])) w) : wpList Tryz.prog ops Q (op :: rest) a w :=
  wpList_plain hgd fun _ hK => by
    unfold Oper.wp execOp
    simp only [ho, hx, Sem.run_bind, Sem.run_pure, Result.andThen_ok, load48 hr]
    exact hK _ _ h
theorem size35 : (Tryz.prog.info? 42).map (·.size) = some 6 := by kernel_rfl
theorem load35 {w : World} {y : Addr} {x : Mc} (h : ∀ j v, (ml x)[j]? = some v → w.cell? (y.add j) = some v) : (Instr.loadAt 42 (.pointer (some y))).run Tryz.prog w = .ok (mv x) w := by
  have hl' : (loadCells y 6).run Tryz.prog w = .ok (ml x).toArray w := run_loadCells_list (P := Tryz.prog) w y (ml x) h
  obtain ⟨i, hi, hs⟩ := Option.map_eq_some_iff.1 size35
  have hg : (isAgg 42).run Tryz.prog w = .ok true w := by
    unfold isAgg
    simp only [Sem.run_bind, run_underlying Tryz.underlying42, Result.andThen_ok, Sem.run_pure]
  have hz : (Go.sizeOf 42).run Tryz.prog w = .ok 6 w := by
    rw [← hs]
    simp [Go.sizeOf, typeInfo, hi]
  simp only [Instr.loadAt, Instr.sureAddr, loadVar, Sem.run_bind, Sem.run_pure, Result.andThen_ok, hg, hz, hl', if_true]
  rfl
theorem at_load35 {ops : Array Oper} {rest : List Oper} {op : Oper} {a : Act} {w : World} {Q : Exit → Act → World → Prop} (x : Operand) (hgd : op.guard = none) (ho : op.op = .load 42 x) (y : Addr) (z : Mc) (hx : a.eval x = .pointer (some y)) (hr : ∀ j v, (ml z)[j]? = some v → w.cell? (y.add j) = some v)
    (h : wpList Tryz.prog ops Q rest (a.put op.dst (.agg #[.int .u8 z.b0, .int .u8 z.b1, .int .u8 z.b2, .int .u8 z.b3, .int .u8 z.b4, .int .u8 z.b5])) w) : wpList Tryz.prog ops Q (op :: rest) a w :=
  wpList_plain hgd fun _ hK => by
    unfold Oper.wp execOp
    simp only [ho, hx, Sem.run_bind, Sem.run_pure, Result.andThen_ok, load35 hr]
    exact hK _ _ h
/-- Whether two stations are one. -/
def eqm (x y : Mc) : Bool := eq6 x.b0 x.b1 x.b2 x.b3 x.b4 x.b5 y.b0 y.b1 y.b2 y.b3 y.b4 y.b5
theorem eqm_iff (x y : Mc) : eqm x y = true ↔ x = y := by
  obtain ⟨a0, a1, a2, a3, a4, a5⟩ := x
  obtain ⟨c0, c1, c2, c3, c4, c5⟩ := y
  simp [eqm, eq6]
theorem eqm_self (x : Mc) : eqm x x = true := (eqm_iff x x).2 rfl
theorem run_eq35 (x y : Mc) (d : Nat) (W : World) : (Op.equalIn (d + 2) 42 (mv x) (mv y)).run Tryz.prog W = .ok (eqm x y) W := run_eq6 _ _ _ _ _ _ _ _ _ _ _ _ d W
end Go.Proofs.YtilneflfeegnfaaGreat.Su

/-
  The contracts of clock.Clamp, clock.Since, clock.Within, of the statements' own within, of mac.None, and of the statements' own station. No condition but that bytes are bytes.
-/
set_option linter.unusedSimpArgs false
set_option linter.unusedVariables false
namespace Go.Proofs.YtilneflfeegnfaaGreat.Su
open Go.RowKit

theorem within_any (t u n : Int) (w : World) : Calls Tryz.prog 95 #[.int .i64 t, .int .i64 u, .int .i64 n] w fun e w' => e = .returned (.bool (wi t u n)) ∧ w = w' := by
  have C := Lib.hid fun a b W => since_any a b W
  by_cases h : 0 ≤ si t u
  · go_enter Tryz.func95, Tryz.ntmps95
    go_wp2_with fail
    refine (C.out _ _ _).mono ?_
    rintro e w1 ⟨rfl, rfl⟩
    go_wp2_with fail
    go_ret
    exact ⟨ret_bool (by simp [wi, h]), rfl⟩
  · go_enter Tryz.func95, Tryz.ntmps95
    go_wp2_with fail
    refine (C.out _ _ _).mono ?_
    rintro e w1 ⟨rfl, rfl⟩
    go_wp2_with fail
    go_ret
    exact ⟨ret_bool (by simp [wi]; omega), rfl⟩
/-- No station. -/
def noB (x : Mc) : Bool := eqm x zm
theorem none_any (x : Mc) (w : World) : Calls Tryz.prog 124 #[mv x] w fun e w' => e = .returned (.bool (noB x)) ∧ Below w.heap.size w w' := by
  obtain ⟨b0, b1, b2, b3, b4, b5⟩ := x
  have hq := fun W => run_eq6 b0 b1 b2 b3 b4 b5 0 0 0 0 0 0 9998 W
  simp only [mv]
  go_enter Tryz.func124, Tryz.ntmps124
  go_wp2
  go_ret
  exact ⟨rfl, (Below.refl _ _).alloc (Nat.le_refl _) _⟩
/-- One of a few stations. -/
def sn (n : Int) : Mc := if n < 128 then ⟨2, 0, 0, 0, 0, 1 + n % 3⟩ else zm
set_option maxHeartbeats 1000000 in
theorem station_any (n : Int) (w : World) (h0 : 0 ≤ n) (h1 : n < 256) : Calls Tryz.prog 48 #[.int .u8 n] w fun e w' => e = .returned (mv (sn n)) ∧ Below w.heap.size w w' := by
  by_cases h : n < 128
  · have H := Lib.hid (show mv (sn n) = .agg #[.int .u8 2, .int .u8 0, .int .u8 0, .int .u8 0, .int .u8 0, .int .u8 (1 + n % 3)] by simp [sn, h, mv])
    rw [H.out]
    go_enter Tryz.func48, Tryz.ntmps48
    go_wp2_with fail
    exact bodyPost_ret (v := .agg #[.int .u8 2, .int .u8 0, .int .u8 0, .int .u8 0, .int .u8 0, .int .u8 (1 + n % 3)]) (by simp [results, Tryz.results48, go_sem]) rfl ⟨rfl, (Below.refl _ w).alloc (Nat.le_refl _) _⟩
  · have H := Lib.hid (show mv (sn n) = .agg #[.int .u8 0, .int .u8 0, .int .u8 0, .int .u8 0, .int .u8 0, .int .u8 0] by simp [sn, h, mv, zm])
    rw [H.out]
    go_enter Tryz.func48, Tryz.ntmps48
    go_wp2_with fail
    exact bodyPost_ret (v := .agg #[.int .u8 0, .int .u8 0, .int .u8 0, .int .u8 0, .int .u8 0, .int .u8 0]) (by simp [results, Tryz.results48, go_sem]) rfl ⟨rfl, (Below.refl _ w).alloc (Nat.le_refl _) _⟩
end Go.Proofs.YtilneflfeegnfaaGreat.Su

/-
  Appends to rows of sightings, and of stations. Conditions: they lie in memory.
-/
set_option linter.unusedSimpArgs false
set_option linter.unusedVariables false
namespace Go.Proofs.YtilneflfeegnfaaGreat.Su
open Go.RowKit

theorem bthen {B : Nat} {a b c : World} (h : Below B a b) (k : Below b.heap.size b c) (hB : B ≤ b.heap.size) : Below B a c := h.trans (k.mono hB)
def zsv : Value := .agg #[.int .i64 0, .int .u8 0, .int .u8 0, .int .u8 0, .int .u8 0, .int .u8 0, .int .u8 0, .int .i64 0]
def zmv : Value := .agg #[.int .u8 0, .int .u8 0, .int .u8 0, .int .u8 0, .int .u8 0, .int .u8 0]
theorem info48 : (Tryz.prog.info? 49).map (fun i => (i.zero, i.size, i.bytes)) = some (some zsv, 8, 24) := by kernel_rfl
theorem info35 : (Tryz.prog.info? 42).map (fun i => (i.zero, i.size, i.bytes)) = some (some zmv, 6, 6) := by kernel_rfl
theorem tS : Ty eS 64 49 := ⟨Tryz.underlying64, by
  obtain ⟨i, hi, hz0, hz1, hz2⟩ := info_parts info48
  exact ⟨i, _, _, hi, hz0, hz1, hz2, rfl, by omega⟩⟩
theorem tM : Ty eM 159 42 := ⟨Tryz.underlying159, by
  obtain ⟨i, hi, hz0, hz1, hz2⟩ := info_parts info35
  exact ⟨i, _, _, hi, hz0, hz1, hz2, rfl, by omega⟩⟩

section
variable {α : Type} {E : El α} {S T : TypeId} (D : Ty E S T)
include D
theorem wpList_append_rw (w : World) {ops : Array Oper} {rest : List Oper} {o : Oper} {a : Act} {Q : Exit → Act → World → Prop} (hgd : o.guard = none) (s x : Operand) (ho : o.op = .call { callee := .builtin .append, args := #[s, x], argTypes := #[S, S] })
    (base : Nat) (v : Value) (n : Nat) (xs : List α) (hs : a.eval s = v) (hown : w.ownsRow base T E.N v n (E.cs xs)) (A : Option Addr) (m c : Nat) (ys : List α) (hx : a.eval x = .slice A m c) (hm : m = ys.length) (hr : Rw E w A ys)
    (hlen : n + m ≤ 1000000000000) (hbase : base ≤ w.heap.size)
    (h : ∀ v' w', w'.ownsRow base T E.N v' (n + m) (E.cs (xs ++ ys)) → w.grownBy w' v.ownBlock → wpList Tryz.prog ops Q rest (a.put o.dst v') w') : wpList Tryz.prog ops Q (o :: rest) a w :=
  wpList_plain hgd fun _ hK => by
    obtain ⟨v', w', hrun, h2, h3⟩ := run_append_rw D w base o.type v n xs hown A m c ys hm hr hlen hbase
    unfold Oper.wp execOp
    simp only [ho, resolve, invoke, builtin, Sem.run_bind, Sem.run_pure, Result.andThen_ok, List.map_toArray, List.map_cons, List.map_nil, hs, hx, hrun]
    exact hK _ _ (h v' w' h2 h3)end

/-- A new variable with a sighting, or a station, is a row of one. -/
theorem rw_one (W : World) (s : Sg) (t : TypeId) : Rw eS (W.alloc (.cells (sl s).toArray t)) (some ⟨W.heap.size, 0, none⟩) [s] := by
  refine ⟨by simp, fun q z hq => ?_⟩
  match q, hq with
  | 0, hq =>
    simp at hq
    subst hq
    refine ⟨_, rfl, fun j v hv => ?_⟩
    rw [Addr.add_mid]
    change (sl s)[j]? = some v at hv
    show (W.alloc _).cell? ⟨W.heap.size, 0 + (0 * 8 + j), none⟩ = _
    match j, hv with
    | 0, h => simp [sl] at h; subst h; simp [sl]
    | 1, h => simp [sl] at h; subst h; simp [sl]
    | 2, h => simp [sl] at h; subst h; simp [sl]
    | 3, h => simp [sl] at h; subst h; simp [sl]
    | 4, h => simp [sl] at h; subst h; simp [sl]
    | 5, h => simp [sl] at h; subst h; simp [sl]
    | 6, h => simp [sl] at h; subst h; simp [sl]
    | 7, h => simp [sl] at h; subst h; simp [sl]
    | j + 8, h => simp [sl] at h
  | q + 1, hq => simp at hq
theorem rm_one (W : World) (s : Mc) (t : TypeId) : Rw eM (W.alloc (.cells (ml s).toArray t)) (some ⟨W.heap.size, 0, none⟩) [s] := by
  refine ⟨by simp, fun q z hq => ?_⟩
  match q, hq with
  | 0, hq =>
    simp at hq
    subst hq
    refine ⟨_, rfl, fun j v hv => ?_⟩
    rw [Addr.add_mid]
    change (ml s)[j]? = some v at hv
    show (W.alloc _).cell? ⟨W.heap.size, 0 + (0 * 6 + j), none⟩ = _
    match j, hv with
    | 0, h => simp [ml] at h; subst h; simp [ml]
    | 1, h => simp [ml] at h; subst h; simp [ml]
    | 2, h => simp [ml] at h; subst h; simp [ml]
    | 3, h => simp [ml] at h; subst h; simp [ml]
    | 4, h => simp [ml] at h; subst h; simp [ml]
    | 5, h => simp [ml] at h; subst h; simp [ml]
    | j + 6, h => simp [ml] at h
  | q + 1, hq => simp at hq
end Go.Proofs.YtilneflfeegnfaaGreat.Su

/-
  The contracts of status.anyOther and status.stationsOf. Conditions: the rows lie in memory.
-/
set_option linter.unusedSimpArgs false
set_option linter.unusedVariables false
namespace Go.Proofs.YtilneflfeegnfaaGreat.Su
open Go.RowKit

/-- Whether one of the stations is another one. -/
def anyO (xs : List Mc) (m : Mc) : Bool := xs.any fun x => !eqm x m
theorem anyO_yes {xs : List Mc} {m x : Mc} {k : Nat} (h : xs[k]? = some x) (he : eqm x m = false) : anyO xs m = true := by
  unfold anyO
  rw [List.any_eq_true]
  exact ⟨x, List.mem_of_getElem? h, by rw [he]; rfl⟩
theorem anyO_take (xs : List Mc) (m : Mc) (k : Nat) {x : Mc} (h : xs[k]? = some x) : anyO (xs.take (k + 1)) m = (anyO (xs.take k) m || !eqm x m) := by
  unfold anyO
  rw [List.take_add_one, h, List.any_append]
  simp

set_option maxRecDepth 100000 in
set_option maxHeartbeats 2000000 in
theorem anyOther_any (m : Mc) (A : Option Addr) (xs : List Mc) (cap : Nat) (w : World) (h : Rw eM w A xs) (hc : xs.length ≤ cap) :
    Calls Tryz.prog 93 #[.slice A xs.length cap, mv m] w fun e w' => e = .returned (.bool (anyO xs m)) ∧ Below w.heap.size w w' := by
  have hln := h.1
  have R := Lib.hid h
  have HT := Lib.hid (fun (k : Nat) (x : Mc) (h : xs[k]? = some x) => anyO_take xs m k h)
  have HY := Lib.hid (fun (k : Nat) (x : Mc) (h : xs[k]? = some x) (he : eqm x m = false) => anyO_yes h he)
  obtain ⟨L, hL⟩ : ∃ L, xs.length = L := ⟨_, rfl⟩
  have HL := Lib.hid hL
  rw [hL] at hc hln ⊢
  have HZ := Lib.hid (show anyO (xs.take L) m = anyO xs m by rw [← hL, List.take_length])
  clear hL h
  have HB0 := Lib.hid (show Below w.heap.size w (w.alloc (Mx m)) from (Below.refl _ w).alloc (Nat.le_refl _) _)
  obtain ⟨c0, c1, c2, c3, c4, c5⟩ := m
  simp only [mv, Mx] at HB0 ⊢
  go_enter Tryz.func93, Tryz.ntmps93
  go_wp2_with fail
  go_loopw [9] (fun i wr => ∃ k : Nat, i = .int .i64 k ∧ k ≤ L ∧ Hid (anyO (xs.take k) ⟨c0, c1, c2, c3, c4, c5⟩ = false ∧ Below (w.alloc (.cells #[.int .u8 c0, .int .u8 c1, .int .u8 c2, .int .u8 c3, .int .u8 c4, .int .u8 c5] 42)).heap.size (w.alloc (.cells #[.int .u8 c0, .int .u8 c1, .int .u8 c2, .int .u8 c3, .int .u8 c4, .int .u8 c5] 42)) wr)) (fun i _ => L - (intOf i).toNat)
  case atStart => exact ⟨0, rfl, by omega, Lib.hid ⟨rfl, Below.refl _ _⟩⟩
  case round =>
    obtain ⟨k, rfl, hk, HH⟩ := hrel
    by_cases hlt : k < L
    · obtain ⟨x, hx⟩ : ∃ x, xs[k]? = some x := ⟨_, List.getElem?_eq_getElem (by rw [HL.out]; exact hlt)⟩
      have RR := (R.out.below HB0.out).below HH.out.2
      obtain ⟨y, rfl⟩ := rw_some RR (by rw [HL.out]; omega)
      have hat := RR.at hx
      obtain ⟨a0, a1, a2, a3, a4, a5⟩ := x
      have HXT := Lib.hid (HT.out k _ hx)
      have HXY := Lib.hid (HY.out k _ hx)
      have hq := fun W => run_eq6 a0 a1 a2 a3 a4 a5 c0 c1 c2 c3 c4 c5 9998 W
      obtain ⟨e, he⟩ : ∃ e, eq6 a0 a1 a2 a3 a4 a5 c0 c1 c2 c3 c4 c5 = e := ⟨_, rfl⟩
      rw [he] at hq
      have HE := Lib.hid (show eqm ⟨a0, a1, a2, a3, a4, a5⟩ ⟨c0, c1, c2, c3, c4, c5⟩ = e from he)
      have hsz : w.heap.size < wr.heap.size := by have := HH.out.2.size; simp at this; omega
      have b0 : wr.cell? ⟨w.heap.size, 0, none⟩ = some (.int .u8 c0) := by rw [HH.out.2.cell (p := ⟨w.heap.size, 0, none⟩) (by simp)]; simp
      have b1 : wr.cell? ⟨w.heap.size, 1, none⟩ = some (.int .u8 c1) := by rw [HH.out.2.cell (p := ⟨w.heap.size, 1, none⟩) (by simp)]; simp
      have b2 : wr.cell? ⟨w.heap.size, 2, none⟩ = some (.int .u8 c2) := by rw [HH.out.2.cell (p := ⟨w.heap.size, 2, none⟩) (by simp)]; simp
      have b3 : wr.cell? ⟨w.heap.size, 3, none⟩ = some (.int .u8 c3) := by rw [HH.out.2.cell (p := ⟨w.heap.size, 3, none⟩) (by simp)]; simp
      have b4 : wr.cell? ⟨w.heap.size, 4, none⟩ = some (.int .u8 c4) := by rw [HH.out.2.cell (p := ⟨w.heap.size, 4, none⟩) (by simp)]; simp
      have b5 : wr.cell? ⟨w.heap.size, 5, none⟩ = some (.int .u8 c5) := by rw [HH.out.2.cell (p := ⟨w.heap.size, 5, none⟩) (by simp)]; simp
      have HA := Lib.hid (HH.out.2.alloc HH.out.2.size (.cells #[.int .u8 a0, .int .u8 a1, .int .u8 a2, .int .u8 a3, .int .u8 a4, .int .u8 a5] 42))
      clear hx he RR
      cases e
      · go_wp2_with (refine at_load35 _ rfl rfl _ _ rfl hat ?_)
        go_ret
        exact ⟨ret_bool (by rw [HXY.out HE.out]), bthen HB0.out HA.out HB0.out.size⟩
      · go_wp2_with (refine at_load35 _ rfl rfl _ _ rfl hat ?_)
        go_roundw
        case rel => exact ⟨k + 1, by go_num, by omega, Lib.hid ⟨by rw [HXT.out, HH.out.1, HE.out]; rfl, HA.out⟩⟩
        case measure => simp [intOf]; omega
    · obtain rfl : k = L := by omega
      go_wp2_with fail
      go_ret
      exact ⟨ret_bool (by rw [← HZ.out, HH.out.1]), bthen HB0.out HH.out.2 HB0.out.size⟩
end Go.Proofs.YtilneflfeegnfaaGreat.Su

/-
  The contract of status.stationsOf. Conditions: the row lies in memory, and has up to 1000000 sightings.
-/
set_option linter.unusedSimpArgs false
set_option linter.unusedVariables false
namespace Go.Proofs.YtilneflfeegnfaaGreat.Su
open Go.RowKit

/-- The stations that sightings name. -/
def sts (ss : List Sg) : List Mc := (ss.map Sg.m).filter fun m => !noB m
theorem sts_take {ss : List Sg} {k : Nat} {s : Sg} (h : ss[k]? = some s) : sts (ss.take (k + 1)) = if noB s.m then sts (ss.take k) else sts (ss.take k) ++ [s.m] := by
  unfold sts
  rw [List.take_add_one, h, List.map_append, List.filter_append]
  cases hn : noB s.m <;> simp [hn]
theorem sts_le (ss : List Sg) : (sts ss).length ≤ ss.length := by
  unfold sts
  exact Nat.le_trans (List.length_filter_le ..) (by simp)

/-- A variable with a sighting. -/
structure Sb (W : World) (b : Nat) (s : Sg) : Prop where
  lt : b < W.heap.size
  c0 : W.cell? ⟨b, 0, none⟩ = some (.int .i64 s.f)
  c1 : W.cell? ⟨b, 1, none⟩ = some (.int .u8 s.m.b0)
  c2 : W.cell? ⟨b, 2, none⟩ = some (.int .u8 s.m.b1)
  c3 : W.cell? ⟨b, 3, none⟩ = some (.int .u8 s.m.b2)
  c4 : W.cell? ⟨b, 4, none⟩ = some (.int .u8 s.m.b3)
  c5 : W.cell? ⟨b, 5, none⟩ = some (.int .u8 s.m.b4)
  c6 : W.cell? ⟨b, 6, none⟩ = some (.int .u8 s.m.b5)
  c7 : W.cell? ⟨b, 7, none⟩ = some (.int .i64 s.t)
theorem sb_box (w : World) (s : Sg) : Sb (w.alloc (Sx s)) w.heap.size s := ⟨by simp, by simp [Sx], by simp [Sx], by simp [Sx], by simp [Sx], by simp [Sx], by simp [Sx], by simp [Sx], by simp [Sx]⟩
theorem Sb.keep {W W' : World} {b B : Nat} {s : Sg} (h : Sb W b s) (hb : Below B W W') (hB : b < B) (hs : W.heap.size ≤ W'.heap.size) : Sb W' b s :=
  ⟨Nat.lt_of_lt_of_le h.lt hs, by rw [hb.cell (p := ⟨b, 0, none⟩) hB]; exact h.c0, by rw [hb.cell (p := ⟨b, 1, none⟩) hB]; exact h.c1, by rw [hb.cell (p := ⟨b, 2, none⟩) hB]; exact h.c2, by rw [hb.cell (p := ⟨b, 3, none⟩) hB]; exact h.c3,
    by rw [hb.cell (p := ⟨b, 4, none⟩) hB]; exact h.c4, by rw [hb.cell (p := ⟨b, 5, none⟩) hB]; exact h.c5, by rw [hb.cell (p := ⟨b, 6, none⟩) hB]; exact h.c6, by rw [hb.cell (p := ⟨b, 7, none⟩) hB]; exact h.c7⟩
theorem Sb.below {W W' : World} {b : Nat} {s : Sg} (h : Sb W b s) (hb : Below W.heap.size W W') : Sb W' b s := h.keep hb h.lt hb.size

set_option maxRecDepth 100000 in
set_option maxHeartbeats 4000000 in
theorem stationsOf_any (A : Option Addr) (xs : List Sg) (cap : Nat) (w : World) (h : Rw eS w A xs) (hc : xs.length ≤ cap) (hx : xs.length ≤ 1000000) :
    Calls Tryz.prog 92 #[.slice A xs.length cap] w (OwnPost eM 42 w (sts xs)) := by
  have R := Lib.hid h
  have HT := Lib.hid (fun (k : Nat) (s : Sg) (h : xs[k]? = some s) => sts_take h)
  have HLe := Lib.hid (fun k => sts_le (xs.take k))
  obtain ⟨L, hL⟩ : ∃ L, xs.length = L := ⟨_, rfl⟩
  have HL := Lib.hid hL
  rw [hL] at hc hx ⊢
  have HZ := Lib.hid (show sts (xs.take L) = sts xs by rw [← hL, List.take_length])
  clear hL h
  go_enter Tryz.func92, Tryz.ntmps92
  go_wp2_with fail
  go_loopw [3, 8] (fun v i wr => ∃ k : Nat, i = .int .i64 k ∧ k ≤ L ∧ Hid (wr.ownsRow w.heap.size 42 6 v (sts (xs.take k)).length (eM.cs (sts (xs.take k))) ∧ Below w.heap.size w wr)) (fun _ i _ => L - (intOf i).toNat)
  case atStart => exact ⟨0, rfl, by omega, Lib.hid ⟨World.ownsRow_nil _ _ _ _, Below.refl _ _⟩⟩
  case round =>
    obtain ⟨k, rfl, hk, HH⟩ := hrel
    by_cases hlt : k < L
    · obtain ⟨s, hs⟩ : ∃ s, xs[k]? = some s := ⟨_, List.getElem?_eq_getElem (by rw [HL.out]; exact hlt)⟩
      have RR := R.out.below HH.out.2
      obtain ⟨y, rfl⟩ := rw_some RR (by rw [HL.out]; omega)
      have hat := RR.at hs
      have HXT := Lib.hid (HT.out k _ hs)
      have hle := HLe.out k
      rw [List.length_take, HL.out] at hle
      have HLE := Lib.hid (show (sts (xs.take k)).length + 1 ≤ 1000000000000 by omega)
      have HN := Lib.hid fun W => none_any s.m W
      have HBX := Lib.hid (sb_box wr s)
      have HA1 : Below wr.heap.size wr (wr.alloc (Sx s)) := (Below.refl _ wr).alloc (Nat.le_refl _) _
      have HB1 := Lib.hid (bthen HH.out.2 HA1 HH.out.2.size)
      have HO1 := Lib.hid (own_keep HH.out.1 HA1)
      obtain ⟨e, he⟩ : ∃ e, noB s.m = e := ⟨_, rfl⟩
      have HE := Lib.hid he
      rw [he] at HN HXT
      obtain ⟨f, m, t⟩ := s
      have HM := Lib.hid (show (⟨f, m, t⟩ : Sg).m = m from rfl)
      have HRM := Lib.hid fun W => rm_one W m 42
      obtain ⟨a0, a1, a2, a3, a4, a5⟩ := m
      simp only [mv, Sx, ml] at HN HBX HB1 HO1 HRM
      clear hs he RR hle HA1
      go_wp2_with (refine at_load48 _ rfl rfl _ _ rfl hat ?_)
      generalize wr.alloc (.cells #[.int .i64 f, .int .u8 a0, .int .u8 a1, .int .u8 a2, .int .u8 a3, .int .u8 a4, .int .u8 a5, .int .i64 t] 49) = W1 at *
      generalize wr.heap.size = N1 at *
      refine (HN.out _).mono ?_
      rintro e2 w2 ⟨rfl, hb⟩
      have HB2 := Lib.hid (bthen HB1.out hb HB1.out.size)
      have HO2 := Lib.hid (own_keep HO1.out hb)
      have HX2 := Lib.hid (HBX.out.below hb)
      have d1 := HX2.out.c1
      have d2 := HX2.out.c2
      have d3 := HX2.out.c3
      have d4 := HX2.out.c4
      have d5 := HX2.out.c5
      have d6 := HX2.out.c6
      dsimp only at d1 d2 d3 d4 d5 d6
      clear hb HB1 HO1 HBX hat
      cases e
      · have HA3 : Below w2.heap.size w2 (w2.alloc (.cells #[.int .u8 a0, .int .u8 a1, .int .u8 a2, .int .u8 a3, .int .u8 a4, .int .u8 a5] 42)) := (Below.refl _ w2).alloc (Nat.le_refl _) _
        have HB3 := Lib.hid (bthen HB2.out HA3 HB2.out.size)
        have HO3 := Lib.hid (own_keep HO2.out HA3)
        clear HA3
        go_wp2_with (at_builtin; refine wpList_append_rw tM _ rfl (.tmp 16) (.tmp 19) rfl w.heap.size _ _ _ (by simp [Act.eval, Act.put]) HO3.out (some ⟨w2.heap.size, 0, none⟩) 1 1 [⟨a0, a1, a2, a3, a4, a5⟩] (by simp [Act.eval, Act.put]) rfl (HRM.out w2) HLE.out HB3.out.size ?_)
        intro v4 w4 ho4 hg4
        have O4 := Lib.hid ho4
        have B4 := Lib.hid (HB3.out.grown hg4 HB3.out.size (fun j hj => (HO3.out.lt j hj).1))
        clear ho4 hg4
        go_wp2_with fail
        go_roundw
        case rel => exact ⟨k + 1, by go_num, by omega, Lib.hid ⟨by rw [HXT.out, if_neg (by simp), List.length_append]; exact O4.out, B4.out⟩⟩
        case measure => simp [intOf]; omega
      · go_wp2_with fail
        go_roundw
        case rel => exact ⟨k + 1, by go_num, by omega, Lib.hid ⟨by rw [HXT.out, if_pos (by simp)]; exact HO2.out, HB2.out⟩⟩
        case measure => simp [intOf]; omega
    · obtain rfl : k = L := by omega
      go_wp2_with fail
      go_ret
      exact ⟨_, rfl, by rw [← HZ.out]; exact HH.out.1, HH.out.2⟩
end Go.Proofs.YtilneflfeegnfaaGreat.Su

/-
  A choice in memory and as a value; slices of rows of sightings. No condition.
-/
set_option linter.unusedSimpArgs false
set_option linter.unusedVariables false
namespace Go.Proofs.YtilneflfeegnfaaGreat.Su
open Go.RowKit

theorem size48' (W : World) : (Go.sizeOf 49).run Tryz.prog W = .ok 8 W := by
  obtain ⟨i, hi, hs⟩ := Option.map_eq_some_iff.1 size48
  rw [← hs]
  simp [Go.sizeOf, typeInfo, hi]
theorem slS_l (A : Option Addr) (n c k : Nat) (hk : k ≤ n) (hc : n ≤ c) (W : World) : (Instr.slice 64 (.slice A n c) (some (.int .i64 (k : Int))) none none).run Tryz.prog W = .ok (.slice (dA 8 A c k) (n - k) (c - k)) W := by
  have h1 : (k : Int) ≤ n := by omega
  unfold Instr.slice Instr.sliceBounds Instr.sliceBound
  simp only [Sem.run_bind, run_underlying Tryz.underlying64, Result.andThen_ok, Sem.run_pure, size48', asIntOf]
  try simp only [Option.isSome_none, Bool.false_eq_true, if_false, Sem.run_bind, Sem.run_pure, Result.andThen_ok]
  rw [if_pos ⟨by omega, h1⟩]
  simp only [Sem.run_bind, Sem.run_pure, Result.andThen_ok, Int.toNat_natCast]
  rfl
theorem slS_h (A : Option Addr) (n c i : Nat) (hi : i ≤ c) (W : World) : (Instr.slice 64 (.slice A n c) none (some (.int .i64 (i : Int))) none).run Tryz.prog W = .ok (.slice A i c) W := by
  have h1 : (i : Int) ≤ c := by omega
  have h2 : A.map (·.add (0 * 8)) = A := by cases A <;> simp [Addr.add]
  unfold Instr.slice Instr.sliceBounds Instr.sliceBound
  simp only [Sem.run_bind, run_underlying Tryz.underlying64, Result.andThen_ok, Sem.run_pure, size48', asIntOf]
  try simp only [Option.isSome_none, Bool.false_eq_true, if_false, Sem.run_bind, Sem.run_pure, Result.andThen_ok]
  rw [if_pos ⟨by omega, h1⟩]
  simp only [Sem.run_bind, Sem.run_pure, Result.andThen_ok, h2, ite_self, Nat.sub_zero, Int.toNat_natCast]
theorem at_sliceL {ops : Array Oper} {rest : List Oper} {op : Oper} {a : Act} {w : World} {Q : Exit → Act → World → Prop} (x l : Operand) (hgd : op.guard = none) (ho : op.op = .slice 64 x (some l) none none) (A : Option Addr) (n c k : Nat) (hx : a.eval x = .slice A n c) (hl : a.eval l = .int .i64 (k : Int)) (hk : k ≤ n) (hc : n ≤ c)
    (h : wpList Tryz.prog ops Q rest (a.put op.dst (.slice (dA 8 A c k) (n - k) (c - k))) w) : wpList Tryz.prog ops Q (op :: rest) a w :=
  wpList_plain hgd fun _ hK => by
    have hr : (Instr.sliceAt 64 (.slice A n c) (some (.int .i64 (k : Int))) none none).run Tryz.prog w = .ok (.slice (dA 8 A c k) (n - k) (c - k)) w := by
      have := slS_l A n c k hk hc w
      simpa only [Instr.sliceAt, Sem.run_bind, run_underlying Tryz.underlying64, Result.andThen_ok] using this
    unfold Oper.wp execOp
    simp only [ho, hx, hl, Option.map_some, Option.map_none, Sem.run_bind, Sem.run_pure, Result.andThen_ok, hr]
    exact hK _ _ h
end Go.Proofs.YtilneflfeegnfaaGreat.Su

/-
  The contract of status.freshOf. Conditions: the row lies in memory, and has up to 1000000 sightings; the need is at most 2^40.
-/
set_option linter.unusedSimpArgs false
set_option linter.unusedVariables false
namespace Go.Proofs.YtilneflfeegnfaaGreat.Su
open Go.RowKit

/-- How many sightings stand ahead of those that count. -/
def hd (c : Cf) (n : Nat) : Nat := n - 1 - (max c.c 0).toNat
/-- The fresh ones of some sightings; of the last ones. -/
def fq (c : Cf) (now : Int) (ss : List Sg) : List Sg := ss.filter fun s => wi now s.t c.a
def fr (c : Cf) (ss : List Sg) (now : Int) : List Sg := fq c now (ss.drop (hd c ss.length))
theorem fq_take {c : Cf} {now : Int} {ss : List Sg} {k : Nat} {s : Sg} (h : ss[k]? = some s) : fq c now (ss.take (k + 1)) = if wi now s.t c.a then fq c now (ss.take k) ++ [s] else fq c now (ss.take k) := by
  unfold fq
  rw [List.take_add_one, h, List.filter_append]
  cases hn : wi now s.t c.a <;> simp [hn]
theorem fq_le (c : Cf) (now : Int) (ss : List Sg) : (fq c now ss).length ≤ ss.length := List.length_filter_le ..
theorem fr_le (c : Cf) (ss : List Sg) (now : Int) : (fr c ss now).length ≤ ss.length := Nat.le_trans (fq_le ..) (by rw [List.length_drop]; omega)

set_option maxRecDepth 100000 in
set_option maxHeartbeats 4000000 in
theorem freshOf_any (x : Cf) (now : Int) (A : Option Addr) (xs : List Sg) (cap : Nat) (w : World) (h : Rw eS w A xs) (hc : xs.length ≤ cap) (hx : xs.length ≤ 1000000) (hcd : x.c ≤ 1099511627776) :
    Calls Tryz.prog 91 #[cfv x, .slice A xs.length cap, .int .i64 now] w (OwnPost eS 49 w (fr x xs now)) := by
  obtain ⟨H, hH⟩ : ∃ H, hd x xs.length = H := ⟨_, rfl⟩
  have hHL : H ≤ xs.length := by rw [← hH]; unfold hd; omega
  obtain ⟨M, hM⟩ : ∃ M : Nat, max x.c 0 = (M : Int) := ⟨(max x.c 0).toNat, by omega⟩
  have hM1 : M ≤ 1099511627776 := by omega
  have EM : max x.c 0 = (M : Int) := hM
  have EH : max ((xs.length : Int) - 1 - M) 0 = (H : Int) := by rw [← hH]; unfold hd; rw [hM]; omega
  have hfr : fr x xs now = fq x now (xs.drop H) := by unfold fr; rw [hH]
  rw [hfr]
  have R0 := h.rest hc H
  have hys : (xs.drop H).length = xs.length - H := List.length_drop
  obtain ⟨D, hD⟩ : ∃ D, dA 8 A cap H = D := ⟨_, rfl⟩
  rw [show eS.N = 8 from rfl, hD] at R0
  obtain ⟨Y, hY⟩ : ∃ Y, xs.drop H = Y := ⟨_, rfl⟩
  rw [hY] at R0 hys ⊢
  obtain ⟨L0, hL0⟩ : ∃ L0, xs.length = L0 := ⟨_, rfl⟩
  rw [hL0] at hc hx hHL EH hys ⊢
  obtain ⟨L, hL⟩ : ∃ L, L0 - H = L := ⟨_, rfl⟩
  have hLL : L ≤ L0 := by omega
  rw [hL] at hys
  have R := Lib.hid R0
  have HL := Lib.hid hys
  have HD := Lib.hid hD
  have HS := Lib.hid hL
  have HT := Lib.hid (fun (k : Nat) (s : Sg) (h : Y[k]? = some s) => fq_take (c := x) (now := now) h)
  have HLe := Lib.hid (fun k => fq_le x now (Y.take k))
  have HZ := Lib.hid (show fq x now (Y.take L) = fq x now Y by rw [← hys, List.take_length])
  have HW := Lib.hid fun u W => within_any now u x.a W
  have HB0 := Lib.hid (show Below w.heap.size w (w.alloc (Cfx x)) from (Below.refl _ w).alloc (Nat.le_refl _) _)
  have HC0 := Lib.hid (cm_box w x)
  have hz : w.heap.size ≤ (w.alloc (Cfx x)).heap.size := by simp
  have hz2 := hz
  obtain ⟨xa, xb, xc, xd, xe, xf, xg, xh, xi⟩ := x
  dsimp only at EM hcd HW
  simp only [cfv, Cfx] at HB0 HC0 hz hz2 ⊢
  clear h hH hM hfr R0 hys hD hY hL0 hL
  go_enter Tryz.func91, Tryz.ntmps91
  go_upto_region 1 with fail
  change (Code.region _ _ _).wp _ _ _ (w.alloc (.cells #[.int .i64 xa, .int .i64 xb, .int .i64 xc, .int .i64 xd, .int .i64 xe, .int .i64 xf, .int .i64 xg, .int .i64 xh, .int .i64 xi] 27))
  generalize w.alloc (.cells #[.int .i64 xa, .int .i64 xb, .int .i64 xc, .int .i64 xd, .int .i64 xe, .int .i64 xf, .int .i64 xg, .int .i64 xh, .int .i64 xi] 27) = W0 at *
  have k2 := HC0.out.c2
  dsimp only at k2
  go_wp2_with (refine at_sliceL (.tmp 19) (.tmp 20) rfl rfl A L0 cap H rfl (by simp [Act.eval, Act.put]) hHL hc ?_)
  rw [HD.out, HS.out]
  go_wp2_with fail
  go_loopw [8, 23] (fun v i wr => ∃ k : Nat, i = .int .i64 k ∧ k ≤ L ∧ Hid (wr.ownsRow W0.heap.size 49 8 v (fq ⟨xa, xb, xc, xd, xe, xf, xg, xh, xi⟩ now (Y.take k)).length (eS.cs (fq ⟨xa, xb, xc, xd, xe, xf, xg, xh, xi⟩ now (Y.take k))) ∧ Below W0.heap.size W0 wr)) (fun _ i _ => L - (intOf i).toNat)
  case atStart => exact ⟨0, rfl, by omega, Lib.hid ⟨World.ownsRow_nil _ _ _ _, Below.refl _ _⟩⟩
  case round =>
    obtain ⟨k, rfl, hk, HH⟩ := hrel
    by_cases hlt : k < L
    · obtain ⟨s, hs⟩ : ∃ s, Y[k]? = some s := ⟨_, List.getElem?_eq_getElem (by rw [HL.out]; exact hlt)⟩
      have RR := (R.out.below HB0.out).below HH.out.2
      obtain ⟨y, rfl⟩ := rw_some RR (by rw [HL.out]; omega)
      have hat := RR.at hs
      have HXT := Lib.hid (HT.out k _ hs)
      have hle := HLe.out k
      rw [List.length_take, HL.out] at hle
      have HLE := Lib.hid (show (fq ⟨xa, xb, xc, xd, xe, xf, xg, xh, xi⟩ now (Y.take k)).length + 1 ≤ 1000000000000 by omega)
      have HWs := Lib.hid (HW.out s.t)
      have HBX := Lib.hid (sb_box wr s)
      have HA1 : Below wr.heap.size wr (wr.alloc (Sx s)) := (Below.refl _ wr).alloc (Nat.le_refl _) _
      have HB1 := Lib.hid (bthen HH.out.2 HA1 HH.out.2.size)
      have HO1 := Lib.hid (own_keep HH.out.1 HA1)
      have HC1 := Lib.hid ((HC0.out.below HH.out.2).below HA1)
      obtain ⟨e, he⟩ : ∃ e, wi now s.t xa = e := ⟨_, rfl⟩
      have HE := Lib.hid he
      rw [he] at HWs HXT
      obtain ⟨f, m, t⟩ := s
      have HRM := Lib.hid fun W => rw_one W ⟨f, m, t⟩ 49
      obtain ⟨a0, a1, a2, a3, a4, a5⟩ := m
      simp only [Sx, sl] at HWs HBX HB1 HO1 HRM HC1
      clear hs he RR hle HA1
      go_upto_region 6 with (refine at_load48 _ rfl rfl _ _ rfl hat ?_)
      generalize wr.alloc (.cells #[.int .i64 f, .int .u8 a0, .int .u8 a1, .int .u8 a2, .int .u8 a3, .int .u8 a4, .int .u8 a5, .int .i64 t] 49) = W1 at *
      generalize wr.heap.size = N1 at *
      have d0 := HC1.out.c0
      have d7 := HBX.out.c7
      dsimp only at d0 d7
      go_wp2_with fail
      refine (HWs.out _).mono ?_
      rintro e2 w2 ⟨rfl, rfl⟩
      cases e
      · go_wp2_with fail
        go_roundw
        case rel => exact ⟨k + 1, by go_num, by omega, Lib.hid ⟨by rw [HXT.out, if_neg (by simp)]; exact HO1.out, HB1.out⟩⟩
        case measure => simp [intOf]; omega
      · have d1 := HBX.out.c0
        have d2 := HBX.out.c1
        have d3 := HBX.out.c2
        have d4 := HBX.out.c3
        have d5 := HBX.out.c4
        have d6 := HBX.out.c5
        have d8 := HBX.out.c6
        dsimp only at d1 d2 d3 d4 d5 d6 d8
        have HA3 : Below W1.heap.size W1 (W1.alloc (.cells #[.int .i64 f, .int .u8 a0, .int .u8 a1, .int .u8 a2, .int .u8 a3, .int .u8 a4, .int .u8 a5, .int .i64 t] 49)) := (Below.refl _ W1).alloc (Nat.le_refl _) _
        have HB3 := Lib.hid (bthen HB1.out HA3 HB1.out.size)
        have HO3 := Lib.hid (own_keep HO1.out HA3)
        clear HA3
        go_wp2_with (at_builtin; refine wpList_append_rw tS _ rfl (.tmp 33) (.tmp 35) rfl W0.heap.size _ _ _ (by simp [Act.eval, Act.put]) HO3.out (some ⟨W1.heap.size, 0, none⟩) 1 1 [⟨f, ⟨a0, a1, a2, a3, a4, a5⟩, t⟩] (by simp [Act.eval, Act.put]) rfl (HRM.out W1) HLE.out HB3.out.size ?_)
        intro v4 w4 ho4 hg4
        have O4 := Lib.hid ho4
        have B4 := Lib.hid (HB3.out.grown hg4 HB3.out.size (fun j hj => (HO3.out.lt j hj).1))
        clear ho4 hg4
        go_wp2_with fail
        go_roundw
        case rel => exact ⟨k + 1, by go_num, by omega, Lib.hid ⟨by rw [HXT.out, if_pos (by simp), List.length_append]; exact O4.out, B4.out⟩⟩
        case measure => simp [intOf]; omega
    · obtain rfl : k = L := by omega
      go_wp2_with fail
      go_ret
      exact ⟨_, rfl, own_base (by rw [← HZ.out]; exact HH.out.1) hz, HB0.out.trans (HH.out.2.mono hz)⟩
end Go.Proofs.YtilneflfeegnfaaGreat.Su

/-
  The contract of status.isRogue: without a holder, and with one that lies in memory. Conditions: the row of stations lies in memory.
-/
set_option linter.unusedSimpArgs false
set_option linter.unusedVariables false
namespace Go.Proofs.YtilneflfeegnfaaGreat.Su
open Go.RowKit

/-- A variable with a holder of this station. -/
structure Hm (W : World) (b : Nat) (m : Mc) : Prop where
  lt : b < W.heap.size
  c2 : W.cell? ⟨b, 2, none⟩ = some (.int .u8 m.b0)
  c3 : W.cell? ⟨b, 3, none⟩ = some (.int .u8 m.b1)
  c4 : W.cell? ⟨b, 4, none⟩ = some (.int .u8 m.b2)
  c5 : W.cell? ⟨b, 5, none⟩ = some (.int .u8 m.b3)
  c6 : W.cell? ⟨b, 6, none⟩ = some (.int .u8 m.b4)
  c7 : W.cell? ⟨b, 7, none⟩ = some (.int .u8 m.b5)
theorem Hm.keep {W W' : World} {b B : Nat} {s : Mc} (h : Hm W b s) (hb : Below B W W') (hB : b < B) (hs : W.heap.size ≤ W'.heap.size) : Hm W' b s :=
  ⟨Nat.lt_of_lt_of_le h.lt hs, by rw [hb.cell (p := ⟨b, 2, none⟩) hB]; exact h.c2, by rw [hb.cell (p := ⟨b, 3, none⟩) hB]; exact h.c3,
    by rw [hb.cell (p := ⟨b, 4, none⟩) hB]; exact h.c4, by rw [hb.cell (p := ⟨b, 5, none⟩) hB]; exact h.c5, by rw [hb.cell (p := ⟨b, 6, none⟩) hB]; exact h.c6, by rw [hb.cell (p := ⟨b, 7, none⟩) hB]; exact h.c7⟩
theorem Hm.below {W W' : World} {b : Nat} {s : Mc} (h : Hm W b s) (hb : Below W.heap.size W W') : Hm W' b s := h.keep hb h.lt hb.size
def Hx (a : Int) (o : Value) (m : Mc) : Obj := .cells #[.int .u32 a, o, .int .u8 m.b0, .int .u8 m.b1, .int .u8 m.b2, .int .u8 m.b3, .int .u8 m.b4, .int .u8 m.b5] 44
theorem hm_box (w : World) (a : Int) (o : Value) (m : Mc) : Hm (w.alloc (Hx a o m)) w.heap.size m := ⟨by simp, by simp [Hx], by simp [Hx], by simp [Hx], by simp [Hx], by simp [Hx], by simp [Hx]⟩

set_option maxRecDepth 100000 in
set_option maxHeartbeats 2000000 in
theorem rogue_nil (A B : Option Addr) (n c k d : Nat) (w : World) : Calls Tryz.prog 94 #[.pointer none, .slice A n c, .slice B k d] w fun e w' => e = .returned (.bool (decide (0 < n))) ∧ w' = w := by
  by_cases h : 0 < n
  · have h' : (0 : Int) < n := by omega
    go_enter Tryz.func94, Tryz.ntmps94
    go_wp2_with fail
    go_ret
    exact ⟨ret_bool (by simp [h]), rfl⟩
  · have h' : ¬ (0 : Int) < n := by omega
    go_enter Tryz.func94, Tryz.ntmps94
    go_wp2_with fail
    go_ret
    exact ⟨ret_bool (by simp [h]), rfl⟩
set_option maxRecDepth 100000 in
set_option maxHeartbeats 2000000 in
theorem rogue_some (b : Nat) (m : Mc) (A B : Option Addr) (n c d : Nat) (ys : List Mc) (w : World) (hm : Hm w b m) (h : Rw eM w B ys) (hd : ys.length ≤ d) :
    Calls Tryz.prog 94 #[.pointer (some ⟨b, 0, none⟩), .slice A n c, .slice B ys.length d] w fun e w' => e = .returned (.bool (!noB m && anyO ys m)) ∧ Below w.heap.size w w' := by
  have HN := Lib.hid fun W => none_any m W
  have HO := Lib.hid fun W (hW : Rw eM W B ys) => anyOther_any m B ys d W hW hd
  have HM := Lib.hid hm
  have R := Lib.hid h
  have d1 := hm.c2
  have d2 := hm.c3
  have d3 := hm.c4
  have d4 := hm.c5
  have d5 := hm.c6
  have d6 := hm.c7
  obtain ⟨e, he⟩ : ∃ e, noB m = e := ⟨_, rfl⟩
  rw [he] at HN ⊢
  obtain ⟨q, hq⟩ : ∃ q, anyO ys m = q := ⟨_, rfl⟩
  rw [hq] at HO ⊢
  obtain ⟨a0, a1, a2, a3, a4, a5⟩ := m
  dsimp only at d1 d2 d3 d4 d5 d6
  simp only [mv] at HN HO
  clear hm h he hq
  cases e
  · go_enter Tryz.func94, Tryz.ntmps94
    go_wp2_with fail
    refine (HN.out _).mono ?_
    rintro e w2 ⟨rfl, hb⟩
    have HB := Lib.hid hb
    have M2 := HM.out.below hb
    have d1 := M2.c2
    have d2 := M2.c3
    have d3 := M2.c4
    have d4 := M2.c5
    have d5 := M2.c6
    have d6 := M2.c7
    dsimp only at d1 d2 d3 d4 d5 d6
    have R2 := Lib.hid (R.out.below hb)
    clear hb M2
    go_wp2_with fail
    refine (HO.out _ R2.out).mono ?_
    rintro e w3 ⟨rfl, hb⟩
    have HB3 := Lib.hid (bthen HB.out hb HB.out.size)
    clear hb
    go_wp2_with fail
    go_ret
    exact ⟨ret_bool (by simp), HB3.out⟩
  · go_enter Tryz.func94, Tryz.ntmps94
    go_wp2_with fail
    refine (HN.out _).mono ?_
    rintro e w2 ⟨rfl, hb⟩
    have HB := Lib.hid hb
    clear hb
    go_wp2_with fail
    go_ret
    exact ⟨ret_bool (by simp), HB.out⟩
end Go.Proofs.YtilneflfeegnfaaGreat.Su

/-
  The contract of status.Of: how an address is. Conditions: the row and the holder lie in memory; up to 1000000 sightings; the need is at most 2^40.
-/
set_option linter.unusedSimpArgs false
set_option linter.unusedVariables false
namespace Go.Proofs.YtilneflfeegnfaaGreat.Su
open Go.RowKit

/-- Whether two of the stations are apart. -/
def apS (S : List Mc) : Bool := match S with
  | [] => false
  | x :: _ => anyO S x
/-- Whether the last one is old. -/
def oldB (c : Cf) (ss : List Sg) (now : Int) : Bool := match ss.getLast? with
  | some s => !wi now s.t c.b
  | none => false
/-- How an address is. -/
def stO (c : Cf) (h : Option Mc) (ss : List Sg) (now : Int) : Int :=
  if apS (sts (fr c ss now)) then 5 else match h with
  | none => if 0 < (fr c ss now).length then 4 else 0
  | some m => if !noB m && anyO (sts (fr c ss now)) m then 4 else if c.c ≤ (fr c ss now).length then 2 else if oldB c ss now then 3 else 1
/-- A holder's pointer. -/
def hp : Option (Nat × Mc) → Value
  | none => .pointer none
  | some (b, _) => .pointer (some ⟨b, 0, none⟩)
def HP (W : World) : Option (Nat × Mc) → Prop
  | none => True
  | some (b, m) => Hm W b m
theorem HP.below {W W' : World} {h : Option (Nat × Mc)} (k : HP W h) (hb : Below W.heap.size W W') : HP W' h := by
  cases h with
  | none => trivial
  | some p => exact Hm.below k hb
/-- A row of the call's own reads so; and where it lies. -/
theorem own_at {α : Type} {E : El α} {w : World} {base : Nat} {e : TypeId} {v : Value} {n : Nat} {xs : List α} (h : w.ownsRow base e E.N v n (E.cs xs)) (hn : xs.length ≤ 140737488355328) :
    ∃ A cap, v = .slice A xs.length cap ∧ xs.length ≤ cap ∧ cap ≤ maxLen ∧ Rw E w A xs ∧ (∀ y, A = some y → ∃ g, y = ⟨g, 0, none⟩) := by
  obtain ⟨A, cap, rfl, h1, h2, _, h3, _⟩ := own_rw h hn
  refine ⟨A, cap, rfl, h1, h2, h3, fun y hy => ?_⟩
  rcases h.2 with ⟨e1, h0⟩ | ⟨g, cap', cur, e1, _⟩
  · injection e1 with e1
    rw [hy] at e1
    cases e1
  · injection e1 with e1
    rw [hy] at e1
    injection e1 with e1
    exact ⟨g, e1⟩

set_option maxRecDepth 100000 in
set_option maxHeartbeats 8000000 in
theorem of_nil (x : Cf) (A : Option Addr) (xs : List Sg) (cap : Nat) (now : Int) (w : World) (h : Rw eS w A xs) (hc : xs.length ≤ cap) (hx : xs.length ≤ 1000000) (hcd : x.c ≤ 1099511627776) :
    Calls Tryz.prog 44 #[cfv x, .pointer none, .slice A xs.length cap, .int .i64 now] w fun e w' => e = .returned (.int .i64 (stO x none xs now)) ∧ Below w.heap.size w w' := by
  have hfl := fr_le x xs now
  have HFR := Lib.hid fun W (hW : Rw eS W A xs) => freshOf_any x now A xs cap W hW hc hx hcd
  have HST := Lib.hid fun B c W (hW : Rw eS W B (fr x xs now)) (hcc : (fr x xs now).length ≤ c) => stationsOf_any B (fr x xs now) c W hW hcc (by omega)
  have HSL := sts_le (fr x xs now)
  have HSP := Lib.hid (show stO x none xs now = _ from by unfold stO; rfl)
  have HB0 := Lib.hid (show Below w.heap.size w (w.alloc (Cfx x)) from (Below.refl _ w).alloc (Nat.le_refl _) _)
  have HC0 := Lib.hid (cm_box w x)
  have R := Lib.hid (h.below HB0.out)
  skip
  have HAN := Lib.hid fun m' B ys c W (hW : Rw eM W B ys) (hcc : ys.length ≤ c) => anyOther_any m' B ys c W hW hcc
  skip
  have RN := Lib.hid fun A1 B n c k d W => rogue_nil A1 B n c k d W
  skip
  obtain ⟨F, hF⟩ : ∃ F, fr x xs now = F := ⟨_, rfl⟩
  rw [hF] at HFR HST HSL HSP hfl
  obtain ⟨S, hS⟩ : ∃ S, sts F = S := ⟨_, rfl⟩
  rw [hS] at HST HSP HSL
  obtain ⟨L, hL⟩ : ∃ L, xs.length = L := ⟨_, rfl⟩
  have HL := Lib.hid hL
  rw [hL] at hc hx hfl HFR ⊢
  obtain ⟨xa, xb, xc, xd, xe, xf, xg, xh, xi⟩ := x
  skip
  dsimp only at hcd HSP
  simp only [cfv, Cfx] at HB0 HC0 R HFR  ⊢
  clear h hL hF hS 
  go_enter Tryz.func44, Tryz.ntmps44
  go_upto_region 1 with fail
  change (Code.region _ _ _).wp _ _ _ (w.alloc (.cells #[.int .i64 xa, .int .i64 xb, .int .i64 xc, .int .i64 xd, .int .i64 xe, .int .i64 xf, .int .i64 xg, .int .i64 xh, .int .i64 xi] 27))
  generalize w.alloc (.cells #[.int .i64 xa, .int .i64 xb, .int .i64 xc, .int .i64 xd, .int .i64 xe, .int .i64 xf, .int .i64 xg, .int .i64 xh, .int .i64 xi] 27) = W0 at *
  have k0 := HC0.out.c0
  have k1 := HC0.out.c1
  have k2 := HC0.out.c2
  have k3 := HC0.out.c3
  have k4 := HC0.out.c4
  have k5 := HC0.out.c5
  have k6 := HC0.out.c6
  have k7 := HC0.out.c7
  have k8 := HC0.out.c8
  dsimp only at k0 k1 k2 k3 k4 k5 k6 k7 k8
  go_wp2_with fail
  refine (HFR.out _ R.out).mono ?_
  rintro e w2 ⟨v2, rfl, ho, hb⟩
  obtain ⟨A1, c1, rfl, hc1, _, h1, -⟩ := own_at (E := eS) ho (by omega)
  have B2 := Lib.hid (bthen HB0.out hb HB0.out.size)
  have C2 := Lib.hid (HC0.out.below hb)
  have X2 := Lib.hid (R.out.below hb)
  skip
  have F2 := Lib.hid h1
  clear ho hb h1 k0 k1 k2 k3 k4 k5 k6 k7 k8
  go_wp2_with fail
  refine (HST.out _ _ _ F2.out hc1).mono ?_
  rintro e w3 ⟨v3, rfl, ho, hb⟩
  obtain ⟨A2, c2, rfl, hc2, _, h1, hg⟩ := own_at (E := eM) ho (by omega)
  have B3' := Lib.hid (bthen B2.out hb B2.out.size)
  have C3' := Lib.hid (C2.out.below hb)
  have X3' := Lib.hid (X2.out.below hb)
  skip
  have R3' := Lib.hid h1
  obtain ⟨n1, hn1⟩ : ∃ n1, F.length = n1 := ⟨_, rfl⟩
  rw [hn1] at hc1 hfl HSL HSP ⊢
  clear ho hb hn1 HFR HST
  rcases S with _ | ⟨z, S'⟩
  · have HAP := Lib.hid (show apS [] = false from rfl)
    have B3 := B3'
    have C3 := C3'
    have X3 := X3'
    skip
    have R3 := R3'
    simp only [List.length_nil] at *
    clear h1 hg
    go_wp2_with fail
    refine (RN.out _ _ _ _ _ _ _).mono ?_
    rintro e w4 ⟨rfl, rfl⟩
    by_cases h0 : 0 < n1
    · have h0' : decide (0 < n1) = true := decide_eq_true h0
      have HR := Lib.hid (HSP.out.trans (by rw [HAP.out, if_neg (by simp), if_pos h0]))
      rw [h0']
      go_wp2_with fail
      go_ret
      exact ⟨ret_int HR.out.symm, B3.out⟩
    · have h0' : decide (0 < n1) = false := decide_eq_false h0
      have HR := Lib.hid (HSP.out.trans (by rw [HAP.out, if_neg (by simp), if_neg h0]))
      rw [h0']
      go_wp2_with fail
      go_ret
      exact ⟨ret_int HR.out.symm, B3.out⟩
  · obtain ⟨y, rfl⟩ := rw_some h1 (by simp)
    obtain ⟨g, rfl⟩ := hg _ rfl
    have hat := h1.at (q := 0) (x := z) rfl
    rw [show ((⟨g, 0, none⟩ : Addr).add (0 * eM.N)) = ⟨g, 0, none⟩ from rfl] at hat
    have g0 : w3.cell? ⟨g, 0, none⟩ = some (.int .u8 z.b0) := hat 0 _ rfl
    have g1 : w3.cell? ⟨g, 1, none⟩ = some (.int .u8 z.b1) := by have := hat 1 _ rfl; rwa [Addr.add_mid] at this
    have g2 : w3.cell? ⟨g, 2, none⟩ = some (.int .u8 z.b2) := by have := hat 2 _ rfl; rwa [Addr.add_mid] at this
    have g3 : w3.cell? ⟨g, 3, none⟩ = some (.int .u8 z.b3) := by have := hat 3 _ rfl; rwa [Addr.add_mid] at this
    have g4 : w3.cell? ⟨g, 4, none⟩ = some (.int .u8 z.b4) := by have := hat 4 _ rfl; rwa [Addr.add_mid] at this
    have g5 : w3.cell? ⟨g, 5, none⟩ = some (.int .u8 z.b5) := by have := hat 5 _ rfl; rwa [Addr.add_mid] at this
    have hAP : apS (z :: S') = anyO (z :: S') z := rfl
    have hl1 : 0 < (z :: S').length := by simp
    have HC := Lib.hid fun W (hW : Rw eM W (some ⟨g, 0, none⟩) (z :: S')) => HAN.out z (some ⟨g, 0, none⟩) (z :: S') c2 W hW hc2
    obtain ⟨S, hSS⟩ : ∃ S, z :: S' = S := ⟨_, rfl⟩
    rw [hSS] at HC hAP hl1 HSP R3' hc2 HSL ⊢
    obtain ⟨q, hqq⟩ : ∃ q, anyO S z = q := ⟨_, rfl⟩
    rw [hqq] at HC hAP
    have HAP := Lib.hid hAP
    obtain ⟨a0, a1, a2, a3, a4, a5⟩ := z
    dsimp only at g0 g1 g2 g3 g4 g5
    simp only [mv] at HC
    obtain ⟨K, hK⟩ : ∃ K, S.length = K := ⟨_, rfl⟩
    have HK := Lib.hid hK
    rw [hK] at hl1 HC hc2 HSL ⊢
    have hl1' : (0 : Int) < K := by omega
    clear hat h1 hg hAP hSS hqq hK
    go_wp2_with fail
    refine (HC.out _ R3'.out).mono ?_
    rintro e w4 ⟨rfl, hb⟩
    have B3 := Lib.hid (bthen B3'.out hb B3'.out.size)
    have C3 := Lib.hid (C3'.out.below hb)
    have X3 := Lib.hid (X3'.out.below hb)
    skip
    have R3 := Lib.hid (R3'.out.below hb)
    clear hb g0 g1 g2 g3 g4 g5
    cases q
    · go_wp2_with fail
      skip
      refine (RN.out _ _ _ _ _ _ _).mono ?_
      rintro e w4 ⟨rfl, rfl⟩
      by_cases h0 : 0 < n1
      · have h0' : decide (0 < n1) = true := decide_eq_true h0
        have HR := Lib.hid (HSP.out.trans (by rw [HAP.out, if_neg (by simp), if_pos h0]))
        rw [h0']
        go_wp2_with fail
        go_ret
        exact ⟨ret_int HR.out.symm, B3.out⟩
      · have h0' : decide (0 < n1) = false := decide_eq_false h0
        have HR := Lib.hid (HSP.out.trans (by rw [HAP.out, if_neg (by simp), if_neg h0]))
        rw [h0']
        go_wp2_with fail
        go_ret
        exact ⟨ret_int HR.out.symm, B3.out⟩
    · have HR := Lib.hid (HSP.out.trans (by rw [HAP.out, if_pos rfl]))
      go_wp2_with fail
      go_ret
      exact ⟨ret_int HR.out.symm, B3.out⟩
set_option maxRecDepth 100000 in
set_option maxHeartbeats 8000000 in
theorem of_some (x : Cf) (b : Nat) (m : Mc) (A : Option Addr) (xs : List Sg) (cap : Nat) (now : Int) (w : World) (hm : Hm w b m) (h : Rw eS w A xs) (hc : xs.length ≤ cap) (hx : xs.length ≤ 1000000) (hcd : x.c ≤ 1099511627776) :
    Calls Tryz.prog 44 #[cfv x, .pointer (some ⟨b, 0, none⟩), .slice A xs.length cap, .int .i64 now] w fun e w' => e = .returned (.int .i64 (stO x (some m) xs now)) ∧ Below w.heap.size w w' := by
  have hfl := fr_le x xs now
  have HFR := Lib.hid fun W (hW : Rw eS W A xs) => freshOf_any x now A xs cap W hW hc hx hcd
  have HST := Lib.hid fun B c W (hW : Rw eS W B (fr x xs now)) (hcc : (fr x xs now).length ≤ c) => stationsOf_any B (fr x xs now) c W hW hcc (by omega)
  have HSL := sts_le (fr x xs now)
  have HSP := Lib.hid (show stO x (some m) xs now = _ from by unfold stO; rfl)
  have HB0 := Lib.hid (show Below w.heap.size w (w.alloc (Cfx x)) from (Below.refl _ w).alloc (Nat.le_refl _) _)
  have HC0 := Lib.hid (cm_box w x)
  have R := Lib.hid (h.below HB0.out)
  have HM0 := Lib.hid (hm.below HB0.out)
  have HAN := Lib.hid fun m' B ys c W (hW : Rw eM W B ys) (hcc : ys.length ≤ c) => anyOther_any m' B ys c W hW hcc
  have RN := Lib.hid fun A1 n c d B W (hW : Hm W b m) => (show Calls Tryz.prog 94 #[.pointer (some ⟨b, 0, none⟩), .slice A1 n c, .slice B 0 d] W fun e w' => e = .returned (.bool (!noB m && anyO [] m)) ∧ Below W.heap.size W w' from rogue_some b m A1 B n c d [] W hW (Rw.nil _ _) (Nat.zero_le _))
  have RS := Lib.hid fun A1 n c d B ys W => rogue_some b m A1 B n c d ys W
  have HW := Lib.hid fun u W => within_any now u x.b W
  obtain ⟨F, hF⟩ : ∃ F, fr x xs now = F := ⟨_, rfl⟩
  rw [hF] at HFR HST HSL HSP hfl
  obtain ⟨S, hS⟩ : ∃ S, sts F = S := ⟨_, rfl⟩
  rw [hS] at HST HSP HSL
  obtain ⟨L, hL⟩ : ∃ L, xs.length = L := ⟨_, rfl⟩
  have HL := Lib.hid hL
  rw [hL] at hc hx hfl HFR ⊢
  obtain ⟨xa, xb, xc, xd, xe, xf, xg, xh, xi⟩ := x
  dsimp only at HW
  dsimp only at hcd HSP
  simp only [cfv, Cfx] at HB0 HC0 R HFR HM0 ⊢
  clear h hL hF hS hm
  go_enter Tryz.func44, Tryz.ntmps44
  go_upto_region 1 with fail
  change (Code.region _ _ _).wp _ _ _ (w.alloc (.cells #[.int .i64 xa, .int .i64 xb, .int .i64 xc, .int .i64 xd, .int .i64 xe, .int .i64 xf, .int .i64 xg, .int .i64 xh, .int .i64 xi] 27))
  generalize w.alloc (.cells #[.int .i64 xa, .int .i64 xb, .int .i64 xc, .int .i64 xd, .int .i64 xe, .int .i64 xf, .int .i64 xg, .int .i64 xh, .int .i64 xi] 27) = W0 at *
  have k0 := HC0.out.c0
  have k1 := HC0.out.c1
  have k2 := HC0.out.c2
  have k3 := HC0.out.c3
  have k4 := HC0.out.c4
  have k5 := HC0.out.c5
  have k6 := HC0.out.c6
  have k7 := HC0.out.c7
  have k8 := HC0.out.c8
  dsimp only at k0 k1 k2 k3 k4 k5 k6 k7 k8
  go_wp2_with fail
  refine (HFR.out _ R.out).mono ?_
  rintro e w2 ⟨v2, rfl, ho, hb⟩
  obtain ⟨A1, c1, rfl, hc1, _, h1, -⟩ := own_at (E := eS) ho (by omega)
  have B2 := Lib.hid (bthen HB0.out hb HB0.out.size)
  have C2 := Lib.hid (HC0.out.below hb)
  have X2 := Lib.hid (R.out.below hb)
  have M2 := Lib.hid (HM0.out.below hb)
  have F2 := Lib.hid h1
  clear ho hb h1 k0 k1 k2 k3 k4 k5 k6 k7 k8
  go_wp2_with fail
  refine (HST.out _ _ _ F2.out hc1).mono ?_
  rintro e w3 ⟨v3, rfl, ho, hb⟩
  obtain ⟨A2, c2, rfl, hc2, _, h1, hg⟩ := own_at (E := eM) ho (by omega)
  have B3' := Lib.hid (bthen B2.out hb B2.out.size)
  have C3' := Lib.hid (C2.out.below hb)
  have X3' := Lib.hid (X2.out.below hb)
  have M3' := Lib.hid (M2.out.below hb)
  have R3' := Lib.hid h1
  obtain ⟨n1, hn1⟩ : ∃ n1, F.length = n1 := ⟨_, rfl⟩
  rw [hn1] at hc1 hfl HSL HSP ⊢
  clear ho hb hn1 HFR HST
  rcases S with _ | ⟨z, S'⟩
  · have HAP := Lib.hid (show apS [] = false from rfl)
    have B3 := B3'
    have C3 := C3'
    have X3 := X3'
    have HM := M3'
    have R3 := R3'
    simp only [List.length_nil] at *
    clear h1 hg
    go_wp2_with fail
    refine (RN.out _ _ _ _ _ _ HM.out).mono ?_
    rintro e w4 ⟨rfl, hb⟩
    have B4 := Lib.hid (bthen B3.out hb B3.out.size)
    have C4 := Lib.hid (C3.out.below hb)
    have X4 := Lib.hid (X3.out.below hb)
    have k2 := C4.out.c2
    have k1 := C4.out.c1
    dsimp only at k1 k2
    clear hb
    cases hq : (!noB m && anyO [] m)
    · have HQ := Lib.hid hq
      clear hq
      by_cases hn : xc ≤ n1
      · have hn' : (n1 : Int) ≥ xc := hn
        have HR := Lib.hid (HSP.out.trans (by rw [HAP.out, if_neg (by simp), HQ.out, if_neg (by simp), if_pos hn]))
        go_wp2_with fail
        go_ret
        exact ⟨ret_int HR.out.symm, B4.out⟩
      · have hn' : ¬ (n1 : Int) ≥ xc := hn
        have HR := Lib.hid (HSP.out.trans (by rw [HAP.out, if_neg (by simp), HQ.out, if_neg (by simp), if_neg hn]))
        rcases L with _ | J
        · have HOl := Lib.hid (show oldB ⟨xa, xb, xc, xd, xe, xf, xg, xh, xi⟩ xs now = false by
            have := List.eq_nil_of_length_eq_zero HL.out
            rw [this]; rfl)
          go_upto_region 11 with fail
          go_quiet (fail)
          go_wp2_with fail
          go_ret
          exact ⟨ret_int (by rw [HR.out, HOl.out]; rfl), bdrewN B4.out _⟩
        · obtain ⟨s, hs⟩ : ∃ s, xs[J]? = some s := ⟨_, List.getElem?_eq_getElem (by rw [HL.out]; omega)⟩
          obtain ⟨y, rfl⟩ := rw_some X4.out (by rw [HL.out]; omega)
          have hat := X4.out.at hs
          have j7 : w4.cell? ⟨(y.add (J * 8)).block, (y.add (J * 8)).off + 7, none⟩ = some (.int .i64 s.t) := hat 7 _ rfl
          have hj : IntKind.i64.wrap (J : Int) = (J : Int) := i64_nat (by omega)
          have HWW := Lib.hid (HW.out s.t)
          have HOl := Lib.hid (show oldB ⟨xa, xb, xc, xd, xe, xf, xg, xh, xi⟩ xs now = !wi now s.t xb by
            unfold oldB
            rw [List.getLast?_eq_getElem?, HL.out, show J + 1 - 1 = J by omega, hs])
          clear hs hat
          cases hw : wi now s.t xb
          · have HR2 := Lib.hid (HR.out.trans (by rw [HOl.out, hw, if_pos (by simp)]))
            rw [hw] at HWW
            clear hw
            go_upto_region 11 with fail
            go_quiet ((go_at_call 95; exact Calls.quiet_of_same ((HWW.out _).mono fun e w' h => ⟨h.1, h.2.symm⟩)))
            go_wp2_with fail
            go_ret
            exact ⟨ret_int HR2.out.symm, bdrewN B4.out _⟩
          · have HR2 := Lib.hid (HR.out.trans (by rw [HOl.out, hw, if_neg (by simp)]))
            rw [hw] at HWW
            clear hw
            go_upto_region 11 with fail
            go_quiet ((go_at_call 95; exact Calls.quiet_of_same ((HWW.out _).mono fun e w' h => ⟨h.1, h.2.symm⟩)))
            go_wp2_with fail
            go_ret
            exact ⟨ret_int HR2.out.symm, bdrewN B4.out _⟩
    · have HQ := Lib.hid hq
      have HR := Lib.hid (HSP.out.trans (by rw [HAP.out, if_neg (by simp), HQ.out, if_pos rfl]))
      go_wp2_with fail
      go_ret
      exact ⟨ret_int HR.out.symm, B4.out⟩
  · obtain ⟨y, rfl⟩ := rw_some h1 (by simp)
    obtain ⟨g, rfl⟩ := hg _ rfl
    have hat := h1.at (q := 0) (x := z) rfl
    rw [show ((⟨g, 0, none⟩ : Addr).add (0 * eM.N)) = ⟨g, 0, none⟩ from rfl] at hat
    have g0 : w3.cell? ⟨g, 0, none⟩ = some (.int .u8 z.b0) := hat 0 _ rfl
    have g1 : w3.cell? ⟨g, 1, none⟩ = some (.int .u8 z.b1) := by have := hat 1 _ rfl; rwa [Addr.add_mid] at this
    have g2 : w3.cell? ⟨g, 2, none⟩ = some (.int .u8 z.b2) := by have := hat 2 _ rfl; rwa [Addr.add_mid] at this
    have g3 : w3.cell? ⟨g, 3, none⟩ = some (.int .u8 z.b3) := by have := hat 3 _ rfl; rwa [Addr.add_mid] at this
    have g4 : w3.cell? ⟨g, 4, none⟩ = some (.int .u8 z.b4) := by have := hat 4 _ rfl; rwa [Addr.add_mid] at this
    have g5 : w3.cell? ⟨g, 5, none⟩ = some (.int .u8 z.b5) := by have := hat 5 _ rfl; rwa [Addr.add_mid] at this
    have hAP : apS (z :: S') = anyO (z :: S') z := rfl
    have hl1 : 0 < (z :: S').length := by simp
    have HC := Lib.hid fun W (hW : Rw eM W (some ⟨g, 0, none⟩) (z :: S')) => HAN.out z (some ⟨g, 0, none⟩) (z :: S') c2 W hW hc2
    obtain ⟨S, hSS⟩ : ∃ S, z :: S' = S := ⟨_, rfl⟩
    rw [hSS] at HC hAP hl1 HSP R3' hc2 HSL ⊢
    obtain ⟨q, hqq⟩ : ∃ q, anyO S z = q := ⟨_, rfl⟩
    rw [hqq] at HC hAP
    have HAP := Lib.hid hAP
    obtain ⟨a0, a1, a2, a3, a4, a5⟩ := z
    dsimp only at g0 g1 g2 g3 g4 g5
    simp only [mv] at HC
    obtain ⟨K, hK⟩ : ∃ K, S.length = K := ⟨_, rfl⟩
    have HK := Lib.hid hK
    rw [hK] at hl1 HC hc2 HSL ⊢
    have hl1' : (0 : Int) < K := by omega
    clear hat h1 hg hAP hSS hqq hK
    go_wp2_with fail
    refine (HC.out _ R3'.out).mono ?_
    rintro e w4 ⟨rfl, hb⟩
    have B3 := Lib.hid (bthen B3'.out hb B3'.out.size)
    have C3 := Lib.hid (C3'.out.below hb)
    have X3 := Lib.hid (X3'.out.below hb)
    have HM := Lib.hid (M3'.out.below hb)
    have R3 := Lib.hid (R3'.out.below hb)
    clear hb g0 g1 g2 g3 g4 g5
    cases q
    · go_wp2_with fail
      rw [← HK.out]
      refine (RS.out _ _ _ _ _ S _ HM.out R3.out (show S.length ≤ c2 by rw [HK.out]; exact hc2)).mono ?_
      rintro e w4 ⟨rfl, hb⟩
      have B4 := Lib.hid (bthen B3.out hb B3.out.size)
      have C4 := Lib.hid (C3.out.below hb)
      have X4 := Lib.hid (X3.out.below hb)
      have k2 := C4.out.c2
      have k1 := C4.out.c1
      dsimp only at k1 k2
      clear hb
      cases hq : (!noB m && anyO S m)
      · have HQ := Lib.hid hq
        clear hq
        by_cases hn : xc ≤ n1
        · have hn' : (n1 : Int) ≥ xc := hn
          have HR := Lib.hid (HSP.out.trans (by rw [HAP.out, if_neg (by simp), HQ.out, if_neg (by simp), if_pos hn]))
          go_wp2_with fail
          go_ret
          exact ⟨ret_int HR.out.symm, B4.out⟩
        · have hn' : ¬ (n1 : Int) ≥ xc := hn
          have HR := Lib.hid (HSP.out.trans (by rw [HAP.out, if_neg (by simp), HQ.out, if_neg (by simp), if_neg hn]))
          rcases L with _ | J
          · exfalso; omega
          · obtain ⟨s, hs⟩ : ∃ s, xs[J]? = some s := ⟨_, List.getElem?_eq_getElem (by rw [HL.out]; omega)⟩
            obtain ⟨y, rfl⟩ := rw_some X4.out (by rw [HL.out]; omega)
            have hat := X4.out.at hs
            have j7 : w4.cell? ⟨(y.add (J * 8)).block, (y.add (J * 8)).off + 7, none⟩ = some (.int .i64 s.t) := hat 7 _ rfl
            have hj : IntKind.i64.wrap (J : Int) = (J : Int) := i64_nat (by omega)
            have HWW := Lib.hid (HW.out s.t)
            have HOl := Lib.hid (show oldB ⟨xa, xb, xc, xd, xe, xf, xg, xh, xi⟩ xs now = !wi now s.t xb by
              unfold oldB
              rw [List.getLast?_eq_getElem?, HL.out, show J + 1 - 1 = J by omega, hs])
            clear hs hat
            cases hw : wi now s.t xb
            · have HR2 := Lib.hid (HR.out.trans (by rw [HOl.out, hw, if_pos (by simp)]))
              rw [hw] at HWW
              clear hw
              go_upto_region 11 with fail
              go_quiet ((go_at_call 95; exact Calls.quiet_of_same ((HWW.out _).mono fun e w' h => ⟨h.1, h.2.symm⟩)))
              go_wp2_with fail
              go_ret
              exact ⟨ret_int HR2.out.symm, bdrewN B4.out _⟩
            · have HR2 := Lib.hid (HR.out.trans (by rw [HOl.out, hw, if_neg (by simp)]))
              rw [hw] at HWW
              clear hw
              go_upto_region 11 with fail
              go_quiet ((go_at_call 95; exact Calls.quiet_of_same ((HWW.out _).mono fun e w' h => ⟨h.1, h.2.symm⟩)))
              go_wp2_with fail
              go_ret
              exact ⟨ret_int HR2.out.symm, bdrewN B4.out _⟩
      · have HQ := Lib.hid hq
        have HR := Lib.hid (HSP.out.trans (by rw [HAP.out, if_neg (by simp), HQ.out, if_pos rfl]))
        go_wp2_with fail
        go_ret
        exact ⟨ret_int HR.out.symm, B4.out⟩
    · have HR := Lib.hid (HSP.out.trans (by rw [HAP.out, if_pos rfl]))
      go_wp2_with fail
      go_ret
      exact ⟨ret_int HR.out.symm, B3.out⟩
theorem of_any (x : Cf) (h : Option (Nat × Mc)) (A : Option Addr) (xs : List Sg) (cap : Nat) (now : Int) (w : World) (hm : HP w h) (hr : Rw eS w A xs) (hc : xs.length ≤ cap) (hx : xs.length ≤ 1000000) (hcd : x.c ≤ 1099511627776) :
    Calls Tryz.prog 44 #[cfv x, hp h, .slice A xs.length cap, .int .i64 now] w fun e w' => e = .returned (.int .i64 (stO x (h.map (·.2)) xs now)) ∧ Below w.heap.size w w' := by
  cases h with
  | none => exact of_nil x A xs cap now w hr hc hx hcd
  | some p => exact of_some x p.1 p.2 A xs cap now w hm hr hc hx hcd
end Go.Proofs.YtilneflfeegnfaaGreat.Su

/-
  What is said of how an address is: the oldest do not matter; what is old; who is active. No condition but what each theorem says.
-/
set_option linter.unusedSimpArgs false
set_option linter.unusedVariables false
namespace Go.Proofs.YtilneflfeegnfaaGreat.Su
open Go.RowKit

theorem wi_old {now t n : Int} (h0 : 0 ≤ t) (h1 : t + n ≤ now) (h2 : now ≤ 1099511627776) (hn : 0 ≤ n) : wi now t n = false := by
  unfold wi si
  rw [cl_in (by omega) h2, cl_in h0 (by omega)]
  simp
  omega
theorem fr_old {x : Cf} {ss : List Sg} {now : Int} (ha : 0 ≤ x.a) (h : ∀ s ∈ ss, 0 ≤ s.t ∧ s.t + x.a ≤ now) (h2 : now ≤ 1099511627776) : fr x ss now = [] := by
  unfold fr fq
  rw [List.filter_eq_nil_iff]
  intro s hs
  obtain ⟨h0, h1⟩ := h s (List.mem_of_mem_drop hs)
  rw [wi_old h0 h1 h2 ha]
  simp
theorem st_free {x : Cf} {ss : List Sg} {now : Int} (ha : 0 ≤ x.a) (h : ∀ s ∈ ss, 0 ≤ s.t ∧ s.t + x.a ≤ now) (h2 : now ≤ 1099511627776) : stO x none ss now = 0 := by
  unfold stO
  rw [fr_old ha h h2]
  rfl
theorem st_planned {x : Cf} {now : Int} (hc : 1 ≤ x.c) : stO x (some zm) [] now = 1 := by
  have e : fr x [] now = [] := by unfold fr fq; simp
  unfold stO
  rw [e]
  simp only [sts, List.map_nil, List.filter_nil, apS, Bool.false_eq_true, if_false, anyO, List.any_nil, Bool.and_false, List.length_nil]
  rw [if_neg (by omega)]
  rfl
theorem st_stale {x : Cf} {ss : List Sg} {now : Int} {s : Sg} (hl : ss.getLast? = some s) (hc : 1 ≤ x.c) (ha : 0 ≤ x.a) (hab : x.a ≤ x.b) (h : ∀ s ∈ ss, 0 ≤ s.t ∧ s.t + x.a ≤ now) (hs : s.t + x.b ≤ now) (h2 : now ≤ 1099511627776) : stO x (some zm) ss now = 3 := by
  have hm := h s (List.mem_of_getLast? hl)
  have ho : oldB x ss now = true := by
    unfold oldB
    rw [hl]
    simp only
    rw [wi_old hm.1 hs h2 (by omega)]
    rfl
  unfold stO
  rw [fr_old ha h h2, ho]
  simp only [sts, List.map_nil, List.filter_nil, apS, Bool.false_eq_true, if_false, anyO, List.any_nil, Bool.and_false, List.length_nil]
  rw [if_neg (by omega)]
  rfl
theorem wi_new {now t n : Int} (h0 : 0 ≤ t) (h1 : t ≤ now) (h3 : now - t < n) (h2 : now ≤ 1099511627776) : wi now t n = true := by
  unfold wi si
  rw [cl_in (by omega) h2, cl_in h0 (by omega)]
  simp
  omega
theorem st_active {x : Cf} {n : Nat} {s : Sg} {now : Int} (h0 : 0 ≤ s.t) (h1 : s.t ≤ now) (h3 : now - s.t < x.a) (h2 : now ≤ 1099511627776) (hc : 0 ≤ x.c) (hn : x.c ≤ n) : stO x (some s.m) (List.replicate n s) now = 2 := by
  have e : fr x (List.replicate n s) now = List.replicate (n - hd x n) s := by
    unfold fr fq
    rw [List.drop_replicate, List.length_replicate, List.filter_replicate, wi_new h0 h1 h3 h2]
    rfl
  have hl : x.c ≤ (n - hd x n : Nat) := by
    unfold hd
    rw [show max x.c 0 = x.c by omega]
    omega
  generalize n - hd x n = K at *
  have e2 : sts (List.replicate K s) = if noB s.m then [] else List.replicate K s.m := by
    unfold sts
    rw [List.map_replicate, List.filter_replicate]
    cases noB s.m <;> simp
  have e3 : ∀ m, anyO (List.replicate K m) m = false := by
    intro m
    unfold anyO
    rw [List.any_eq_false]
    intro y hy
    rw [(List.mem_replicate.1 hy).2, eqm_self]
    simp
  have e4 : apS (sts (List.replicate K s)) = false := by
    rw [e2]
    cases noB s.m
    · cases K with
      | zero => rfl
      | succ K => exact e3 s.m
    · rfl
  have e5 : (!noB s.m && anyO (sts (List.replicate K s)) s.m) = false := by
    rw [e2]
    cases noB s.m
    · simpa using e3 s.m
    · rfl
  unfold stO
  rw [e, e4]
  simp only [Bool.false_eq_true, if_false, List.length_replicate]
  rw [e5, if_neg (by simp), if_pos hl]


end Go.Proofs.YtilneflfeegnfaaGreat.Su

