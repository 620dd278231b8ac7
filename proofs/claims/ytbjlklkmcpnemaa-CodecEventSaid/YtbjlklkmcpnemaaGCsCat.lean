/-
  Appends to rows of cases; the contracts of slices.Clone, slices.Grow and slices.Concat at cases. Conditions: of up to 1000000 elements in all, which lie in memory.
-/
import Derived.Lib.SliceRun
import Derived.Test.YtbjlklkmcpnemaaGCsBase
set_option linter.unusedSimpArgs false
set_option linter.unusedVariables false
namespace Go.Proofs.Ytbjlklkmcpnemaa
open Go.RowKit

/-- How the program lays out a row's elements. -/
structure Ty {α : Type} (E : El α) (S T : TypeId) : Prop where
  sl : Try.prog.underlying S = some (.slice T)
  info : ∃ i z b, Try.prog.info? T = some i ∧ i.zero = some z ∧ i.size = E.N ∧ i.bytes = b ∧ z.cells.size = E.N ∧ b ≤ 100
theorem info_parts {t : TypeId} {z : Value} {n b : Nat} (h : (Try.prog.info? t).map (fun i => (i.zero, i.size, i.bytes)) = some (some z, n, b)) : ∃ i, Try.prog.info? t = some i ∧ i.zero = some z ∧ i.size = n ∧ i.bytes = b := by
  obtain ⟨i, hi, he⟩ := Option.map_eq_some_iff.1 h
  simp only [Prod.mk.injEq] at he
  exact ⟨i, hi, he.1, he.2.1, he.2.2⟩
section
variable {α : Type} {E : El α} {S T : TypeId} (D : Ty E S T)
include D
/-- Nothing appended: nothing done. -/
theorem run_append_no (w : World) (base : Nat) (ty : TypeId) (v : Value) (n c : Nat) (xs : List Value) (hown : w.ownsRow base T E.N v n xs) : (Builtin.append_ #[S, S] ty #[v, .slice none 0 c]).run Try.prog w = .ok v w := by
  obtain ⟨i, z, b, hi, _⟩ := D.info
  rcases hown.2 with ⟨rfl, rfl⟩ | ⟨g, cap, cur, rfl, _, _, hle, _⟩
  · simp [Builtin.append_, run_underlying D.sl, Go.sizeOf, typeInfo, hi, Builtin.lenOf, Builtin.firstCells]
  · simp [Builtin.append_, run_underlying D.sl, Go.sizeOf, typeInfo, hi, Builtin.lenOf, Builtin.firstCells, hle, storeCells]
/-- A row appended to one of the call's own. -/
theorem run_append_rw (w : World) (base : Nat) (ty : TypeId) (v : Value) (n : Nat) (xs : List α) (hown : w.ownsRow base T E.N v n (E.cs xs)) (A : Option Addr) (m c : Nat) (ys : List α) (hm : m = ys.length) (hr : Rw E w A ys)
    (hlen : n + m ≤ 1000000000000) (hbase : base ≤ w.heap.size) :
    ∃ v' w', (Builtin.append_ #[S, S] ty #[v, .slice A m c]).run Try.prog w = .ok v' w' ∧ w'.ownsRow base T E.N v' (n + m) (E.cs (xs ++ ys)) ∧ w.grownBy w' v.ownBlock := by
  subst hm
  rw [cs_append]
  rcases A with _ | x
  · obtain rfl := rw_none hr
    refine ⟨v, w, run_append_no D w base ty v n c _ hown, ?_, ⟨rfl, rfl, rfl, Nat.le_refl _, fun _ _ _ => rfl⟩⟩
    simpa [El.cs] using hown
  · obtain ⟨i, z, b, hi, hz0, hz1, hz2, hz3, hb⟩ := D.info
    obtain ⟨v', w', hrun, h2, h3, _, h5⟩ := run_append_own_at (P := Try.prog) w base S ty T i z E.N b D.sl hi hz0 hz1 hz2 hz3 E.pos v n (E.cs xs) hown x ys.length c (E.cs ys) (by rw [cs_length]) hr.cells (cs_one ys) (by unfold maxLen; omega)
      (Nat.le_trans (Nat.mul_le_mul hlen hb) (by omega)) hbase
    exact ⟨v', w', hrun, h2, h3⟩
/-- The same, and where the new row lies. -/
theorem run_append_rw2 (w : World) (base : Nat) (ty : TypeId) (v : Value) (n : Nat) (xs : List α) (hown : w.ownsRow base T E.N v n (E.cs xs)) (A : Option Addr) (m c : Nat) (ys : List α) (hm : m = ys.length) (hr : Rw E w A ys)
    (hlen : n + m ≤ 1000000000000) (hbase : base ≤ w.heap.size) :
    ∃ v' w', (Builtin.append_ #[S, S] ty #[v, .slice A m c]).run Try.prog w = .ok v' w' ∧ w'.ownsRow base T E.N v' (n + m) (E.cs (xs ++ ys)) ∧ w.grownBy w' v.ownBlock ∧ (v'.ownBlock = v.ownBlock ∨ v'.ownBlock = some w.heap.size) := by
  subst hm
  rw [cs_append]
  rcases A with _ | x
  · obtain rfl := rw_none hr
    refine ⟨v, w, run_append_no D w base ty v n c _ hown, ?_, ⟨rfl, rfl, rfl, Nat.le_refl _, fun _ _ _ => rfl⟩, .inl rfl⟩
    simpa [El.cs] using hown
  · obtain ⟨i, z, b, hi, hz0, hz1, hz2, hz3, hb⟩ := D.info
    obtain ⟨v', w', hrun, h2, h3, _, h5⟩ := run_append_own_at (P := Try.prog) w base S ty T i z E.N b D.sl hi hz0 hz1 hz2 hz3 E.pos v n (E.cs xs) hown x ys.length c (E.cs ys) (by rw [cs_length]) hr.cells (cs_one ys) (by unfold maxLen; omega)
      (Nat.le_trans (Nat.mul_le_mul hlen hb) (by omega)) hbase
    exact ⟨v', w', hrun, h2, h3, h5⟩
theorem wpList_append_rw2 (w : World) {ops : Array Oper} {rest : List Oper} {o : Oper} {a : Act} {Q : Exit → Act → World → Prop} (hgd : o.guard = none) (s x : Operand) (ho : o.op = .call { callee := .builtin .append, args := #[s, x], argTypes := #[S, S] })
    (base : Nat) (v : Value) (n : Nat) (xs : List α) (hs : a.eval s = v) (hown : w.ownsRow base T E.N v n (E.cs xs)) (A : Option Addr) (m c : Nat) (ys : List α) (hx : a.eval x = .slice A m c) (hm : m = ys.length) (hr : Rw E w A ys)
    (hlen : n + m ≤ 1000000000000) (hbase : base ≤ w.heap.size)
    (h : ∀ v' w', w'.ownsRow base T E.N v' (n + m) (E.cs (xs ++ ys)) → w.grownBy w' v.ownBlock → (v'.ownBlock = v.ownBlock ∨ v'.ownBlock = some w.heap.size) → wpList Try.prog ops Q rest (a.put o.dst v') w') : wpList Try.prog ops Q (o :: rest) a w :=
  wpList_plain hgd fun _ hK => by
    obtain ⟨v', w', hrun, h2, h3, h4⟩ := run_append_rw2 D w base o.type v n xs hown A m c ys hm hr hlen hbase
    unfold Oper.wp execOp
    simp only [ho, resolve, invoke, builtin, Sem.run_bind, Sem.run_pure, Result.andThen_ok, List.map_toArray, List.map_cons, List.map_nil, hs, hx, hrun]
    exact hK _ _ (h v' w' h2 h3 h4)
/-- Room for some elements, where there was none. -/
theorem run_zeros (h3 : Try.prog.underlying 3 = some (.int .i64)) (w : World) (n : Nat) (ty : TypeId) (h0 : 0 < n) (hn : n ≤ 1000000) : ∃ C cap, n ≤ cap ∧ cap ≤ maxLen ∧ C.size = cap * E.N ∧ (Builtin.append_ #[S, 3] ty #[.slice none 0 0, .int .i64 (n : Int)]).run Try.prog w =
    .ok (.slice (some ⟨w.heap.size, 0, none⟩) n cap) (w.drew.alloc (.cells C T)) := by
  obtain ⟨i, z, b, hi, hz0, hz1, hz2, hz3, hb⟩ := D.info
  subst hz2
  have hne : n ≠ 0 := by omega
  have hw : IntKind.i64.wrap (n : Int) = n := by rw [IntKind.wrap_i64]; omega
  have h1 : ¬ ((n : Int) < 0) := by omega
  have hnb : n * i.bytes ≤ 1000000 * 100 := Nat.mul_le_mul hn hb
  have h2 : ¬ (281474976710656 < (n : Int) * (i.bytes : Int)) := by
    have : ((n * i.bytes : Nat) : Int) = (n : Int) * (i.bytes : Int) := Int.natCast_mul _ _
    omega
  have h63' : ¬ (9223372036854775807 < (n : Int)) := by omega
  have h48' : ¬ (281474976710656 < Builtin.nextslicecap n 0 * i.bytes) := by rw [nextslicecap_zero h0]; omega
  have h48 : ¬ (281474976710656 < ((Builtin.nextslicecap n 0 : Nat) : Int) * (i.bytes : Int)) := by rw [nextslicecap_zero h0]; exact h2
  refine ⟨Builtin.zeroCells z.cells n ++ Builtin.zeroCells z.cells (grownCap w n 0 T - n), grownCap w n 0 T, grownCap_ge w n 0 T, grownCap_le_maxLen w n 0 T (by unfold maxLen; omega), ?_, ?_⟩
  · have hge := grownCap_ge w n 0 T
    rw [Array.size_append, size_zeroCells, size_zeroCells, hz3, ← Nat.add_mul, show n + (grownCap w n 0 T - n) = grownCap w n 0 T by omega]
  · simp [Builtin.append_, run_underlying D.sl, run_underlying h3, Go.sizeOf, typeInfo, zeroValue, hi, hz0, hz1, hne, hw, h1, h2, h63', h48, h48', Question.forced, run_firstCells_none, newRow, grownCap, asInt, asIntOf]
    intro h
    exact absurd h (Nat.ne_of_gt (Nat.mul_pos h0 E.pos))
theorem wpList_zeros (h3 : Try.prog.underlying 3 = some (.int .i64)) (w : World) {ops : Array Oper} {rest : List Oper} {o : Oper} {a : Act} {Q : Exit → Act → World → Prop} (hgd : o.guard = none) (s x : Operand) (ho : o.op = .call { callee := .builtin .append, args := #[s, x], argTypes := #[S, 3] })
    (n : Nat) (hs : a.eval s = .slice none 0 0) (hx : a.eval x = .int .i64 (n : Int)) (h0 : 0 < n) (hn : n ≤ 1000000)
    (h : ∀ C cap, n ≤ cap → cap ≤ maxLen → C.size = cap * E.N → wpList Try.prog ops Q rest (a.put o.dst (.slice (some ⟨w.heap.size, 0, none⟩) n cap)) (w.drew.alloc (.cells C T))) : wpList Try.prog ops Q (o :: rest) a w :=
  wpList_plain hgd fun _ hK => by
    obtain ⟨C, cap, hge, hle, hsz, hr⟩ := run_zeros D h3 w n o.type h0 hn
    unfold Oper.wp execOp
    simp only [ho, resolve, invoke, builtin, Sem.run_bind, Sem.run_pure, Result.andThen_ok, List.map_toArray, List.map_cons, List.map_nil, hs, hx, hr]
    exact hK _ _ (h _ _ hge hle hsz)
end

/-- A row of the call's own, of whatever capacity. -/
def OwnPost {α : Type} (E : El α) (T : TypeId) (w : World) (xs : List α) (e : Ending) (w' : World) : Prop := ∃ v, e = .returned v ∧ w'.ownsRow w.heap.size T E.N v xs.length (E.cs xs) ∧ Below w.heap.size w w'

/-- A part of what is put together. -/
structure Pt (α : Type) where
  A : Option Addr
  xs : List α
  c : Nat
/-- The parts as they lie in memory. -/
def Pm {α : Type} (E : El α) (w : World) (b : Nat) (ps : List (Pt α)) : Prop := b < w.heap.size ∧ ∀ (k : Nat) (p : Pt α), ps[k]? = some p → w.cell? ⟨b, k, none⟩ = some (.slice p.A p.xs.length p.c) ∧ Rw E w p.A p.xs
def cat {α : Type} (ps : List (Pt α)) (k : Nat) : List α := (ps.take k).flatMap (·.xs)
theorem cat_zero {α : Type} (ps : List (Pt α)) : cat ps 0 = [] := by simp [cat]
theorem cat_snoc {α : Type} {ps : List (Pt α)} {k : Nat} {p : Pt α} (h : ps[k]? = some p) : cat ps (k + 1) = cat ps k ++ p.xs := by
  unfold cat
  rw [List.take_add_one, h]
  simp
theorem cat_le {α : Type} (ps : List (Pt α)) (k : Nat) : (cat ps k).length ≤ (cat ps ps.length).length := by
  unfold cat
  rw [List.take_length]
  have : ps = ps.take k ++ ps.drop k := (List.take_append_drop k ps).symm
  conv => rhs; rw [this]
  rw [List.flatMap_append, List.length_append]
  omega

end Go.Proofs.Ytbjlklkmcpnemaa
