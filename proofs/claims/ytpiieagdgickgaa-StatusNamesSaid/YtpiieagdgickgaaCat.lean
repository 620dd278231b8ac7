/-
  Appends to rows of sightings, and of stations. Conditions: they lie in memory.
-/
import Derived.Test.YtpiieagdgickgaaBase
import Derived.Lib.SliceRun
set_option linter.unusedSimpArgs false
set_option linter.unusedVariables false
namespace Go.Proofs.Ytpiieagdgickgaa
open Go.RowKit

theorem bthen {B : Nat} {a b c : World} (h : Below B a b) (k : Below b.heap.size b c) (hB : B ≤ b.heap.size) : Below B a c := h.trans (k.mono hB)
/-- How the program lays out a row's elements. -/
structure Ty {α : Type} (E : El α) (S T : TypeId) : Prop where
  sl : Try.prog.underlying S = some (.slice T)
  info : ∃ i z b, Try.prog.info? T = some i ∧ i.zero = some z ∧ i.size = E.N ∧ i.bytes = b ∧ z.cells.size = E.N ∧ b ≤ 100
def zsv : Value := .agg #[.int .i64 0, .int .u8 0, .int .u8 0, .int .u8 0, .int .u8 0, .int .u8 0, .int .u8 0, .int .i64 0]
def zmv : Value := .agg #[.int .u8 0, .int .u8 0, .int .u8 0, .int .u8 0, .int .u8 0, .int .u8 0]
theorem info48 : (Try.prog.info? 48).map (fun i => (i.zero, i.size, i.bytes)) = some (some zsv, 8, 24) := by kernel_rfl
theorem info35 : (Try.prog.info? 35).map (fun i => (i.zero, i.size, i.bytes)) = some (some zmv, 6, 6) := by kernel_rfl
theorem tS : Ty eS 29 48 := ⟨Try.underlying29, by
  obtain ⟨i, hi, hz0, hz1, hz2⟩ := info_parts info48
  exact ⟨i, _, _, hi, hz0, hz1, hz2, rfl, by omega⟩⟩
theorem tM : Ty eM 59 35 := ⟨Try.underlying59, by
  obtain ⟨i, hi, hz0, hz1, hz2⟩ := info_parts info35
  exact ⟨i, _, _, hi, hz0, hz1, hz2, rfl, by omega⟩⟩

section
variable {α : Type} {E : El α} {S T : TypeId} (D : Ty E S T)
include D
/-- Nothing appended: nothing done. -/
theorem run_append_no (w : World) (base : Nat) (ty : TypeId) (v : Value) (n c : Nat) (xs : List Value) (hown : w.ownsRow base T E.N v n xs) : (Builtin.append_ #[S, S] ty #[v, .slice none 0 c]).run Try.prog w = .ok v w := by
  obtain ⟨i, z, b, hi, _⟩ := D.info
  rcases hown.2 with ⟨rfl, rfl⟩ | ⟨g, cap, cur, rfl, _, _, hle, _⟩
  · simp [Builtin.append_, run_underlying D.sl, sizeOf, typeInfo, hi, Builtin.lenOf, Builtin.firstCells]
  · simp [Builtin.append_, run_underlying D.sl, sizeOf, typeInfo, hi, Builtin.lenOf, Builtin.firstCells, hle, storeCells]
/-- A row appended to one of the call's own. -/
theorem run_append_rw (w : World) (base : Nat) (ty : TypeId) (v : Value) (n : Nat) (xs : List α) (hown : w.ownsRow base T E.N v n (E.cs xs)) (A : Option Addr) (m c : Nat) (ys : List α) (hm : m = ys.length) (hr : Rw E w A ys)
    (hlen : n + m ≤ 1000000000000) (hbase : base ≤ w.heap.size) :
    ∃ v' w', (Builtin.append_ #[S, S] ty #[v, .slice A m c]).run Try.prog w = .ok v' w' ∧ w'.ownsRow base T E.N v' (n + m) (E.cs (xs ++ ys)) ∧ w.grownBy w' v.ownBlock := by
  subst hm
  rw [cs_append]
  rcases A with _ | x
  · obtain rfl := rw_none hr
    refine ⟨v, w, run_append_no D w base ty v n c _ hown, ?_, ⟨rfl, rfl, rfl, Nat.le_refl _, fun _ _ _ => rfl⟩⟩
    simpa [El.cs] using hown
  · obtain ⟨i, z, b, hi, hz0, hz1, hz2, hz3, hb⟩ := D.info
    obtain ⟨v', w', hrun, h2, h3, _, h5⟩ := run_append_own_at (P := Try.prog) w base S ty T i z E.N b D.sl hi hz0 hz1 hz2 hz3 E.pos v n (E.cs xs) hown x ys.length c (E.cs ys) (by rw [cs_length]) hr.cells (cs_one ys) (by unfold maxLen; omega)
      (Nat.le_trans (Nat.mul_le_mul hlen hb) (by omega)) hbase
    exact ⟨v', w', hrun, h2, h3⟩
theorem wpList_append_rw (w : World) {ops : Array Oper} {rest : List Oper} {o : Oper} {a : Act} {Q : Exit → Act → World → Prop} (hgd : o.guard = none) (s x : Operand) (ho : o.op = .call { callee := .builtin .append, args := #[s, x], argTypes := #[S, S] })
    (base : Nat) (v : Value) (n : Nat) (xs : List α) (hs : a.eval s = v) (hown : w.ownsRow base T E.N v n (E.cs xs)) (A : Option Addr) (m c : Nat) (ys : List α) (hx : a.eval x = .slice A m c) (hm : m = ys.length) (hr : Rw E w A ys)
    (hlen : n + m ≤ 1000000000000) (hbase : base ≤ w.heap.size)
    (h : ∀ v' w', w'.ownsRow base T E.N v' (n + m) (E.cs (xs ++ ys)) → w.grownBy w' v.ownBlock → wpList Try.prog ops Q rest (a.put o.dst v') w') : wpList Try.prog ops Q (o :: rest) a w :=
  wpList_plain hgd fun _ hK => by
    obtain ⟨v', w', hrun, h2, h3⟩ := run_append_rw D w base o.type v n xs hown A m c ys hm hr hlen hbase
    unfold Oper.wp execOp
    simp only [ho, resolve, invoke, builtin, Sem.run_bind, Sem.run_pure, Result.andThen_ok, List.map_toArray, List.map_cons, List.map_nil, hs, hx, hrun]
    exact hK _ _ (h v' w' h2 h3)end

/-- A row of the call's own, of whatever capacity. -/
def OwnPost {α : Type} (E : El α) (T : TypeId) (w : World) (xs : List α) (e : Ending) (w' : World) : Prop := ∃ v, e = .returned v ∧ w'.ownsRow w.heap.size T E.N v xs.length (E.cs xs) ∧ Below w.heap.size w w'

/-- A new variable with a sighting, or a station, is a row of one. -/
theorem rw_one (W : World) (s : Sg) (t : TypeId) : Rw eS (W.alloc (.cells (sl s).toArray t)) (some ⟨W.heap.size, 0, none⟩) [s] := by
  refine ⟨by simp, fun q z hq => ?_⟩
  match q, hq with
  | 0, hq =>
    simp at hq
    subst hq
    refine ⟨_, rfl, fun j v hv => ?_⟩
    rw [Addr.add_mid]
    change (sl s)[j]? = some v at hv
    show (W.alloc _).cell? ⟨W.heap.size, 0 + (0 * 8 + j), none⟩ = _
    match j, hv with
    | 0, h => simp [sl] at h; subst h; simp [sl]
    | 1, h => simp [sl] at h; subst h; simp [sl]
    | 2, h => simp [sl] at h; subst h; simp [sl]
    | 3, h => simp [sl] at h; subst h; simp [sl]
    | 4, h => simp [sl] at h; subst h; simp [sl]
    | 5, h => simp [sl] at h; subst h; simp [sl]
    | 6, h => simp [sl] at h; subst h; simp [sl]
    | 7, h => simp [sl] at h; subst h; simp [sl]
    | j + 8, h => simp [sl] at h
  | q + 1, hq => simp at hq
theorem rm_one (W : World) (s : Mc) (t : TypeId) : Rw eM (W.alloc (.cells (ml s).toArray t)) (some ⟨W.heap.size, 0, none⟩) [s] := by
  refine ⟨by simp, fun q z hq => ?_⟩
  match q, hq with
  | 0, hq =>
    simp at hq
    subst hq
    refine ⟨_, rfl, fun j v hv => ?_⟩
    rw [Addr.add_mid]
    change (ml s)[j]? = some v at hv
    show (W.alloc _).cell? ⟨W.heap.size, 0 + (0 * 6 + j), none⟩ = _
    match j, hv with
    | 0, h => simp [ml] at h; subst h; simp [ml]
    | 1, h => simp [ml] at h; subst h; simp [ml]
    | 2, h => simp [ml] at h; subst h; simp [ml]
    | 3, h => simp [ml] at h; subst h; simp [ml]
    | 4, h => simp [ml] at h; subst h; simp [ml]
    | 5, h => simp [ml] at h; subst h; simp [ml]
    | j + 6, h => simp [ml] at h
  | q + 1, hq => simp at hq
end Go.Proofs.Ytpiieagdgickgaa
