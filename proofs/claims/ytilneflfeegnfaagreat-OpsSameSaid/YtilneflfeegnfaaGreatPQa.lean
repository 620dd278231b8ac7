/-
  Part of the proof: several texts in one file. No condition of its own.
-/
import Derived.Test.YtilneflfeegnfaaGreatChecked
import GoSem.Claim
import Derived.WalkKit
import Derived.Lib.Strings
import Derived.WalkLawsBesides
import Derived.BigQuiet
import Derived.Deep.QuietTactic
import Derived.Deep.MidRow
import Derived.Deep.CutRange
import Derived.Deep.LoopGhost
import Derived.Deep.Slices
import Derived.Deep.OwnRows
import Derived.Deep.AppendLies
import Derived.Laws.OwnMore
import Derived.Laws.AppendOwn
import Derived.Laws.ResultCell
import Derived.Laws.BitsAllLaws
import Derived.Maps.AppendAt
import Derived.RegionTactic
import Derived.OwnWalk
import Derived.Lib.Hide
import Derived.Lib.MinMax
import Derived.Lib.QuietBelow
import Derived.StillTailTactics
import Derived.Lib.SliceRun
import Derived.Orders
import Derived.Tactics
import Derived.Below
import Derived.BigGuard
import Derived.Test.YtilneflfeegnfaaGreatProg
import Derived.Shelf.SlSortCmp.Insertion
set_option linter.unusedSimpArgs false
set_option linter.unusedVariables false
namespace Go.Proofs.YtilneflfeegnfaaGreat
open Go.RowKit
theorem bdrewN {B : Nat} {a w : World} (h : Below B a w) (n : Nat) : Below B a (w.drewN n) := h.trans ⟨rfl, rfl, rfl, Nat.le_refl _, fun _ _ => rfl⟩
theorem bcell {W w1 : World} (hb : Below W.heap.size W w1) : (∀ b o, b < W.heap.size → w1.cell? ⟨b, o, none⟩ = W.cell? ⟨b, o, none⟩) ∧ (∀ b o, b < W.heap.size → w1.frozen? ⟨b, o, none⟩ = W.frozen? ⟨b, o, none⟩) :=
  ⟨fun b o h => hb.cell (p := ⟨b, o, none⟩) h, fun b o h => hb.frozen (p := ⟨b, o, none⟩) h⟩
theorem ret_bool {a b : Bool} (h : a = b) : Ending.returned (.bool a) = .returned (.bool b) := by rw [h]
theorem ret_int {k : IntKind} {a b : Int} (h : a = b) : Ending.returned (.int k a) = .returned (.int k b) := by rw [h]
theorem hx_below {w : World} (o : Obj) {w1 : World} (h : Below (w.alloc o).heap.size (w.alloc o) w1) : Below w.heap.size w w1 :=
  ((Below.refl _ w).alloc (Nat.le_refl _) o).trans (h.mono (by simp))
theorem i64_nat {j : Nat} (h : j ≤ 140737488355328) : IntKind.i64.wrap (j : Int) = (j : Int) := by rw [IntKind.wrap_i64]; omega
theorem add_block (y : Addr) (k : Nat) : (y.add k).block = y.block := by unfold Addr.add; split <;> rfl
structure El (α : Type) where
  cl : α → List Value
  N : Nat
  pos : 0 < N
  len : ∀ x, (cl x).length = N
  one : ∀ x, ∀ u ∈ cl x, u.oneCell' = true
def El.cs {α : Type} (E : El α) (xs : List α) : List Value := xs.flatMap E.cl
section
variable {α : Type} {E : El α}
theorem cs_append (xs ys : List α) : E.cs (xs ++ ys) = E.cs xs ++ E.cs ys := by simp [El.cs]
theorem cs_one (xs : List α) : ∀ u ∈ E.cs xs, u.oneCell' = true := by
  intro u hu
  obtain ⟨r, _, h⟩ := List.mem_flatMap.1 hu
  exact E.one r u h
theorem cs_length (xs : List α) : (E.cs xs).length = xs.length * E.N := by
  induction xs with
  | nil => simp [El.cs]
  | cons x r ih => rw [El.cs, List.flatMap_cons, List.length_append, ← El.cs, ih, E.len, List.length_cons, Nat.succ_mul]; omega
theorem cs_at (xs : List α) : ∀ (q : Nat) (x : α) (j : Nat), xs[q]? = some x → j < E.N → (E.cs xs)[q * E.N + j]? = (E.cl x)[j]? := by
  induction xs with
  | nil => intro q x j h; simp at h
  | cons y r ih =>
    intro q x j h hj
    rw [El.cs, List.flatMap_cons, ← El.cs]
    cases q with
    | zero =>
      simp at h
      subst h
      rw [List.getElem?_append_left (by rw [E.len]; omega)]
      simp
    | succ q =>
      rw [List.getElem?_append_right (by rw [E.len, Nat.succ_mul]; omega), E.len, show (q + 1) * E.N + j - E.N = q * E.N + j by rw [Nat.succ_mul]; omega]
      exact ih q x j (by simpa using h) hj
def Rw (E : El α) (w : World) (A : Option Addr) (xs : List α) : Prop :=
  xs.length ≤ 140737488355328 ∧ ∀ (q : Nat) (x : α), xs[q]? = some x → ∃ y, A = some y ∧ ∀ j v, (E.cl x)[j]? = some v → w.cell? (y.add (q * E.N + j)) = some v
theorem Rw.nil (w : World) (A : Option Addr) : Rw E w A [] := ⟨by simp, fun q x h => by simp at h⟩
theorem Rw.cells_keep {w w' : World} {A : Option Addr} {xs : List α} (h : Rw E w A xs) (hc : ∀ y a v, A = some y → a.block = y.block → w.cell? a = some v → w'.cell? a = some v) : Rw E w' A xs := by
  refine ⟨h.1, fun q x hq => ?_⟩
  obtain ⟨y, hy, hc'⟩ := h.2 q x hq
  exact ⟨y, hy, fun j v hv => hc y _ v hy (add_block _ _) (hc' j v hv)⟩
theorem Rw.below {w w' : World} {A : Option Addr} {xs : List α} (h : Rw E w A xs) (hb : Below w.heap.size w w') : Rw E w' A xs :=
  h.cells_keep fun _ _ _ _ _ hc => (hb.cell (World.block_lt_of_cell? _ _ hc)).trans hc
theorem Rw.belowB {w w' : World} {A : Option Addr} {xs : List α} {B : Nat} (h : Rw E w A xs) (hb : Below B w w') (hB : ∀ y, A = some y → y.block < B) : Rw E w' A xs :=
  h.cells_keep fun y a v hy ha hc => (hb.cell (by rw [ha]; exact hB y hy)).trans hc
theorem Rw.grown {w w' : World} {A : Option Addr} {xs : List α} {row : Option Nat} (h : Rw E w A xs) (hg : w.grownBy w' row) (hne : ∀ x, A = some x → some x.block ≠ row) : Rw E w' A xs :=
  h.cells_keep fun y a v hy ha hc => hg.cell hc (by rw [ha]; exact hne y hy)
theorem Rw.drewN {w : World} {A : Option Addr} {xs : List α} (h : Rw E w A xs) (n : Nat) : Rw E (w.drewN n) A xs := h.below (bdrewN (Below.refl _ _) n)
theorem rw_some {w : World} {A : Option Addr} {xs : List α} (h : Rw E w A xs) (hn : 0 < xs.length) : ∃ y, A = some y := by
  obtain ⟨y, hy, _⟩ := h.2 0 xs[0] (List.getElem?_eq_getElem hn)
  exact ⟨y, hy⟩
theorem rw_none {w : World} {xs : List α} (h : Rw E w none xs) : xs = [] := by
  rcases Nat.eq_zero_or_pos xs.length with h0 | h0
  · exact List.eq_nil_of_length_eq_zero h0
  · obtain ⟨x, hx⟩ := rw_some h h0
    cases hx
theorem Rw.at {w : World} {y : Addr} {xs : List α} (h : Rw E w (some y) xs) {q : Nat} {x : α} (hq : xs[q]? = some x) : ∀ j v, (E.cl x)[j]? = some v → w.cell? ((y.add (q * E.N)).add j) = some v := by
  obtain ⟨y', hy, hc⟩ := h.2 q x hq
  injection hy with hy
  subst hy
  intro j v hv
  rw [Addr.add_add]
  exact hc j v hv
theorem Rw.cells {w : World} {y : Addr} {xs : List α} (h : Rw E w (some y) xs) : ∀ j u, (E.cs xs)[j]? = some u → w.cell? (y.add j) = some u := by
  intro j u hu
  have hN := E.pos
  have hj : j < xs.length * E.N := by have := (List.getElem?_eq_some_iff.1 hu).1; rwa [cs_length] at this
  have e : j = j / E.N * E.N + j % E.N := by have := Nat.div_add_mod j E.N; rw [Nat.mul_comm] at this; omega
  have hq : j / E.N < xs.length := (Nat.div_lt_iff_lt_mul hN).2 hj
  have hx := List.getElem?_eq_getElem hq
  obtain ⟨y', hy, hc⟩ := h.2 (j / E.N) _ hx
  injection hy with hy
  subst hy
  rw [e, cs_at xs (j / E.N) _ (j % E.N) hx (Nat.mod_lt _ hN)] at hu
  rw [e]
  exact hc _ _ hu
theorem Rw.take {w : World} {A : Option Addr} {xs : List α} (h : Rw E w A xs) (n : Nat) : Rw E w A (xs.take n) := by
  refine ⟨by have := h.1; rw [List.length_take]; omega, fun q x hq => h.2 q x ?_⟩
  rw [List.getElem?_take] at hq
  split at hq
  · exact hq
  · cases hq
theorem Rw.drop {w : World} {y : Addr} {xs : List α} (h : Rw E w (some y) xs) (n : Nat) : Rw E w (some (y.add (n * E.N))) (xs.drop n) := by
  refine ⟨by have := h.1; rw [List.length_drop]; omega, fun q x hq => ?_⟩
  rw [List.getElem?_drop] at hq
  obtain ⟨y', hy, hc⟩ := h.2 (n + q) x hq
  injection hy with hy
  subst hy
  refine ⟨_, rfl, fun j v hv => ?_⟩
  rw [Addr.add_add, show n * E.N + (q * E.N + j) = (n + q) * E.N + j by rw [Nat.add_mul]; omega]
  exact hc j v hv
def dA (N : Nat) (A : Option Addr) (c k : Nat) : Option Addr := if c = k then A else A.map (·.add (k * N))
theorem Rw.rest {w : World} {A : Option Addr} {xs : List α} (h : Rw E w A xs) {c : Nat} (hc : xs.length ≤ c) (k : Nat) : Rw E w (dA E.N A c k) (xs.drop k) := by
  unfold dA
  split
  · rename_i e
    rw [List.drop_eq_nil_of_le (by omega)]
    exact Rw.nil _ _
  · cases A with
    | none =>
      rw [rw_none h, List.drop_nil]
      exact Rw.nil _ _
    | some y => exact h.drop k
theorem own_rw {w : World} {base : Nat} {e : TypeId} {v : Value} {n : Nat} {xs : List α} (h : w.ownsRow base e E.N v n (E.cs xs)) (hn : xs.length ≤ 140737488355328) : ∃ A cap, v = .slice A xs.length cap ∧ xs.length ≤ cap ∧ cap ≤ maxLen ∧ n = xs.length ∧ Rw E w A xs ∧ (∀ y, A = some y → base ≤ y.block ∧ y.block < w.heap.size) := by
  have hl := h.1
  rw [cs_length] at hl
  have hnx : n = xs.length := (Nat.eq_of_mul_eq_mul_right E.pos hl).symm
  subst hnx
  rcases h.2 with ⟨rfl, h0⟩ | ⟨g, cap, cur, rfl, hb, hg, hle, hm, hs, ht⟩
  · have : xs = [] := List.eq_nil_of_length_eq_zero h0
    subst this
    exact ⟨none, 0, rfl, by simp, by unfold maxLen; omega, rfl, Rw.nil _ _, fun y e => by cases e⟩
  · refine ⟨some ⟨g, 0, none⟩, cap, rfl, hle, hm, rfl, ⟨hn, fun q x hq => ⟨_, rfl, fun j v hv => ?_⟩⟩, fun y e => by injection e with e; subst e; exact ⟨hb, (Array.getElem?_eq_some_iff.1 hg).1⟩⟩
    have hj : j < E.N := by have := (List.getElem?_eq_some_iff.1 hv).1; rwa [E.len] at this
    refine h.cells (g := g) rfl _ _ ?_
    rw [cs_at xs q x j hq hj]
    exact hv
theorem own_keep {w w' : World} {base : Nat} {e : TypeId} {size : Nat} {v : Value} {n : Nat} {xs : List Value} (h : w.ownsRow base e size v n xs) (hb : Below w.heap.size w w') : w'.ownsRow base e size v n xs := by
  refine ⟨h.1, h.2.imp id ?_⟩
  rintro ⟨g, cap, cur, e1, e2, e3, r⟩
  refine ⟨g, cap, cur, e1, e2, ?_, r⟩
  rw [hb.block g (Array.getElem?_eq_some_iff.1 e3).1]
  exact e3
theorem own_base {w : World} {base B : Nat} {e : TypeId} {size : Nat} {v : Value} {n : Nat} {xs : List Value} (h : w.ownsRow base e size v n xs) (hb : B ≤ base) : w.ownsRow B e size v n xs := by
  refine ⟨h.1, h.2.imp id ?_⟩
  rintro ⟨g, cap, cur, e1, e2, e3, r⟩
  exact ⟨g, cap, cur, e1, Nat.le_trans hb e2, e3, r⟩
end
section
variable {ops : Array Oper} {rest : List Oper} {o : Oper} {a : Act} {w : World} {Q : Exit → Act → World → Prop}
theorem wpList_want (hw : Region.wanted o (yielded ops a.tmps) = true) (h : ∀ K : Act → World → Prop, (∀ a w, wpList Tryz.prog ops Q rest a w → K a w) → o.wp Tryz.prog a w K Q) : wpList Tryz.prog ops Q (o :: rest) a w :=
  wpList_step fun K hK => by rw [if_pos hw]; exact h K hK
end
end Go.Proofs.YtilneflfeegnfaaGreat
namespace Go.Proofs.YtilneflfeegnfaaGreat
open Go.RowKit
structure Ty {α : Type} (E : El α) (S T : TypeId) : Prop where
  sl : Tryz.prog.underlying S = some (.slice T)
  info : ∃ i z b, Tryz.prog.info? T = some i ∧ i.zero = some z ∧ i.size = E.N ∧ i.bytes = b ∧ z.cells.size = E.N ∧ b ≤ 100
theorem info_parts {t : TypeId} {z : Value} {n b : Nat} (h : (Tryz.prog.info? t).map (fun i => (i.zero, i.size, i.bytes)) = some (some z, n, b)) : ∃ i, Tryz.prog.info? t = some i ∧ i.zero = some z ∧ i.size = n ∧ i.bytes = b := by
  obtain ⟨i, hi, he⟩ := Option.map_eq_some_iff.1 h
  simp only [Prod.mk.injEq] at he
  exact ⟨i, hi, he.1, he.2.1, he.2.2⟩
section
variable {α : Type} {E : El α} {S T : TypeId} (D : Ty E S T)
include D
theorem run_append_no (w : World) (base : Nat) (ty : TypeId) (v : Value) (n c : Nat) (xs : List Value) (hown : w.ownsRow base T E.N v n xs) : (Builtin.append_ #[S, S] ty #[v, .slice none 0 c]).run Tryz.prog w = .ok v w := by
  obtain ⟨i, z, b, hi, _⟩ := D.info
  rcases hown.2 with ⟨rfl, rfl⟩ | ⟨g, cap, cur, rfl, _, _, hle, _⟩
  · simp [Builtin.append_, run_underlying D.sl, Go.sizeOf, typeInfo, hi, Builtin.lenOf, Builtin.firstCells]
  · simp [Builtin.append_, run_underlying D.sl, Go.sizeOf, typeInfo, hi, Builtin.lenOf, Builtin.firstCells, hle, storeCells]
theorem run_append_rw (w : World) (base : Nat) (ty : TypeId) (v : Value) (n : Nat) (xs : List α) (hown : w.ownsRow base T E.N v n (E.cs xs)) (A : Option Addr) (m c : Nat) (ys : List α) (hm : m = ys.length) (hr : Rw E w A ys)
    (hlen : n + m ≤ 1000000000000) (hbase : base ≤ w.heap.size) :
    ∃ v' w', (Builtin.append_ #[S, S] ty #[v, .slice A m c]).run Tryz.prog w = .ok v' w' ∧ w'.ownsRow base T E.N v' (n + m) (E.cs (xs ++ ys)) ∧ w.grownBy w' v.ownBlock := by
  subst hm
  rw [cs_append]
  rcases A with _ | x
  · obtain rfl := rw_none hr
    refine ⟨v, w, run_append_no D w base ty v n c _ hown, ?_, ⟨rfl, rfl, rfl, Nat.le_refl _, fun _ _ _ => rfl⟩⟩
    simpa [El.cs] using hown
  · obtain ⟨i, z, b, hi, hz0, hz1, hz2, hz3, hb⟩ := D.info
    obtain ⟨v', w', hrun, h2, h3, _, h5⟩ := run_append_own_at (P := Tryz.prog) w base S ty T i z E.N b D.sl hi hz0 hz1 hz2 hz3 E.pos v n (E.cs xs) hown x ys.length c (E.cs ys) (by rw [cs_length]) hr.cells (cs_one ys) (by unfold maxLen; omega)
      (Nat.le_trans (Nat.mul_le_mul hlen hb) (by omega)) hbase
    exact ⟨v', w', hrun, h2, h3⟩
theorem run_append_rw2 (w : World) (base : Nat) (ty : TypeId) (v : Value) (n : Nat) (xs : List α) (hown : w.ownsRow base T E.N v n (E.cs xs)) (A : Option Addr) (m c : Nat) (ys : List α) (hm : m = ys.length) (hr : Rw E w A ys)
    (hlen : n + m ≤ 1000000000000) (hbase : base ≤ w.heap.size) :
    ∃ v' w', (Builtin.append_ #[S, S] ty #[v, .slice A m c]).run Tryz.prog w = .ok v' w' ∧ w'.ownsRow base T E.N v' (n + m) (E.cs (xs ++ ys)) ∧ w.grownBy w' v.ownBlock ∧ (v'.ownBlock = v.ownBlock ∨ v'.ownBlock = some w.heap.size) := by
  subst hm
  rw [cs_append]
  rcases A with _ | x
  · obtain rfl := rw_none hr
    refine ⟨v, w, run_append_no D w base ty v n c _ hown, ?_, ⟨rfl, rfl, rfl, Nat.le_refl _, fun _ _ _ => rfl⟩, .inl rfl⟩
    simpa [El.cs] using hown
  · obtain ⟨i, z, b, hi, hz0, hz1, hz2, hz3, hb⟩ := D.info
    obtain ⟨v', w', hrun, h2, h3, _, h5⟩ := run_append_own_at (P := Tryz.prog) w base S ty T i z E.N b D.sl hi hz0 hz1 hz2 hz3 E.pos v n (E.cs xs) hown x ys.length c (E.cs ys) (by rw [cs_length]) hr.cells (cs_one ys) (by unfold maxLen; omega)
      (Nat.le_trans (Nat.mul_le_mul hlen hb) (by omega)) hbase
    exact ⟨v', w', hrun, h2, h3, h5⟩
theorem wpList_append_rw2 (w : World) {ops : Array Oper} {rest : List Oper} {o : Oper} {a : Act} {Q : Exit → Act → World → Prop} (hgd : o.guard = none) (s x : Operand) (ho : o.op = .call { callee := .builtin .append, args := #[s, x], argTypes := #[S, S] })
    (base : Nat) (v : Value) (n : Nat) (xs : List α) (hs : a.eval s = v) (hown : w.ownsRow base T E.N v n (E.cs xs)) (A : Option Addr) (m c : Nat) (ys : List α) (hx : a.eval x = .slice A m c) (hm : m = ys.length) (hr : Rw E w A ys)
    (hlen : n + m ≤ 1000000000000) (hbase : base ≤ w.heap.size)
    (h : ∀ v' w', w'.ownsRow base T E.N v' (n + m) (E.cs (xs ++ ys)) → w.grownBy w' v.ownBlock → (v'.ownBlock = v.ownBlock ∨ v'.ownBlock = some w.heap.size) → wpList Tryz.prog ops Q rest (a.put o.dst v') w') : wpList Tryz.prog ops Q (o :: rest) a w :=
  wpList_plain hgd fun _ hK => by
    obtain ⟨v', w', hrun, h2, h3, h4⟩ := run_append_rw2 D w base o.type v n xs hown A m c ys hm hr hlen hbase
    unfold Oper.wp execOp
    simp only [ho, resolve, invoke, builtin, Sem.run_bind, Sem.run_pure, Result.andThen_ok, List.map_toArray, List.map_cons, List.map_nil, hs, hx, hrun]
    exact hK _ _ (h v' w' h2 h3 h4)
theorem run_zeros (h3 : Tryz.prog.underlying 3 = some (.int .i64)) (w : World) (n : Nat) (ty : TypeId) (h0 : 0 < n) (hn : n ≤ 1000000) : ∃ C cap, n ≤ cap ∧ cap ≤ maxLen ∧ C.size = cap * E.N ∧ (Builtin.append_ #[S, 3] ty #[.slice none 0 0, .int .i64 (n : Int)]).run Tryz.prog w =
    .ok (.slice (some ⟨w.heap.size, 0, none⟩) n cap) (w.drew.alloc (.cells C T)) := by
  obtain ⟨i, z, b, hi, hz0, hz1, hz2, hz3, hb⟩ := D.info
  subst hz2
  have hne : n ≠ 0 := by omega
  have hw : IntKind.i64.wrap (n : Int) = n := by rw [IntKind.wrap_i64]; omega
  have h1 : ¬ ((n : Int) < 0) := by omega
  have hnb : n * i.bytes ≤ 1000000 * 100 := Nat.mul_le_mul hn hb
  have h2 : ¬ (281474976710656 < (n : Int) * (i.bytes : Int)) := by
    have : ((n * i.bytes : Nat) : Int) = (n : Int) * (i.bytes : Int) := Int.natCast_mul _ _
    omega
  have h63' : ¬ (9223372036854775807 < (n : Int)) := by omega
  have h48' : ¬ (281474976710656 < Builtin.nextslicecap n 0 * i.bytes) := by rw [nextslicecap_zero h0]; omega
  have h48 : ¬ (281474976710656 < ((Builtin.nextslicecap n 0 : Nat) : Int) * (i.bytes : Int)) := by rw [nextslicecap_zero h0]; exact h2
  refine ⟨Builtin.zeroCells z.cells n ++ Builtin.zeroCells z.cells (grownCap w n 0 T - n), grownCap w n 0 T, grownCap_ge w n 0 T, grownCap_le_maxLen w n 0 T (by unfold maxLen; omega), ?_, ?_⟩
  · have hge := grownCap_ge w n 0 T
    rw [Array.size_append, size_zeroCells, size_zeroCells, hz3, ← Nat.add_mul, show n + (grownCap w n 0 T - n) = grownCap w n 0 T by omega]
  · simp [Builtin.append_, run_underlying D.sl, run_underlying h3, Go.sizeOf, typeInfo, zeroValue, hi, hz0, hz1, hne, hw, h1, h2, h63', h48, h48', Question.forced, run_firstCells_none, newRow, grownCap, asInt, asIntOf]
    intro h
    exact absurd h (Nat.ne_of_gt (Nat.mul_pos h0 E.pos))
theorem wpList_zeros (h3 : Tryz.prog.underlying 3 = some (.int .i64)) (w : World) {ops : Array Oper} {rest : List Oper} {o : Oper} {a : Act} {Q : Exit → Act → World → Prop} (hgd : o.guard = none) (s x : Operand) (ho : o.op = .call { callee := .builtin .append, args := #[s, x], argTypes := #[S, 3] })
    (n : Nat) (hs : a.eval s = .slice none 0 0) (hx : a.eval x = .int .i64 (n : Int)) (h0 : 0 < n) (hn : n ≤ 1000000)
    (h : ∀ C cap, n ≤ cap → cap ≤ maxLen → C.size = cap * E.N → wpList Tryz.prog ops Q rest (a.put o.dst (.slice (some ⟨w.heap.size, 0, none⟩) n cap)) (w.drew.alloc (.cells C T))) : wpList Tryz.prog ops Q (o :: rest) a w :=
  wpList_plain hgd fun _ hK => by
    obtain ⟨C, cap, hge, hle, hsz, hr⟩ := run_zeros D h3 w n o.type h0 hn
    unfold Oper.wp execOp
    simp only [ho, resolve, invoke, builtin, Sem.run_bind, Sem.run_pure, Result.andThen_ok, List.map_toArray, List.map_cons, List.map_nil, hs, hx, hr]
    exact hK _ _ (h _ _ hge hle hsz)
end
def OwnPost {α : Type} (E : El α) (T : TypeId) (w : World) (xs : List α) (e : Ending) (w' : World) : Prop := ∃ v, e = .returned v ∧ w'.ownsRow w.heap.size T E.N v xs.length (E.cs xs) ∧ Below w.heap.size w w'
structure Pt (α : Type) where
  A : Option Addr
  xs : List α
  c : Nat
def Pm {α : Type} (E : El α) (w : World) (b : Nat) (ps : List (Pt α)) : Prop := b < w.heap.size ∧ ∀ (k : Nat) (p : Pt α), ps[k]? = some p → w.cell? ⟨b, k, none⟩ = some (.slice p.A p.xs.length p.c) ∧ Rw E w p.A p.xs
def cat {α : Type} (ps : List (Pt α)) (k : Nat) : List α := (ps.take k).flatMap (·.xs)
theorem cat_zero {α : Type} (ps : List (Pt α)) : cat ps 0 = [] := by simp [cat]
theorem cat_snoc {α : Type} {ps : List (Pt α)} {k : Nat} {p : Pt α} (h : ps[k]? = some p) : cat ps (k + 1) = cat ps k ++ p.xs := by
  unfold cat
  rw [List.take_add_one, h]
  simp
theorem cat_le {α : Type} (ps : List (Pt α)) (k : Nat) : (cat ps k).length ≤ (cat ps ps.length).length := by
  unfold cat
  rw [List.take_length]
  have : ps = ps.take k ++ ps.drop k := (List.take_append_drop k ps).symm
  conv => rhs; rw [this]
  rw [List.flatMap_append, List.length_append]
  omega
end Go.Proofs.YtilneflfeegnfaaGreat
namespace Go.Proofs.YtilneflfeegnfaaGreat
open Go
section
variable {P : Program} {ops : Array Oper} {Q : Exit → Act → World → Prop}
theorem count_step {ls : Array Bool} {i : Nat} (h : ls.getD i true = false) : (ls.setIfInBounds i true).toList.countP (· == false) + 1 = ls.toList.countP (· == false) := by
  obtain ⟨l⟩ := ls
  have hi : i < l.length := by
    rcases Nat.lt_or_ge i l.length with h' | h'
    · exact h'
    · simp [h'] at h
  have hv : l[i] = false := by simpa [hi] using h
  simp only [List.setIfInBounds_toArray]
  have := List.countP_set (p := (· == false)) (a := true) hi
  rw [this, if_pos (by rw [hv]; rfl), if_neg (by simp)]
  have hp : 0 < l.countP (· == false) := List.countP_pos_iff.2 ⟨false, by rw [← hv]; exact List.getElem_mem hi, rfl⟩
  omega
theorem ready_none {ls : Array Bool} (_hs : ls.size = ops.size) (h : ls.toList.countP (· == false) = 0) : Region.ready .any ops ls = [] := by
  rw [List.eq_nil_iff_forall_not_mem]
  intro i hi
  have h1 := (mem_ready.1 hi).1
  rw [List.countP_eq_zero] at h
  rcases Nat.lt_or_ge i ls.size with h' | h'
  · have h2 : ls[i] = false := by simpa [h'] using h1
    exact h false (by rw [← h2]; simp) rfl
  · simp [h'] at h1
theorem wpAny_inv (I : Array Bool → Act → World → Prop) (hsz : ∀ ls a w, I ls a w → ls.size = ops.size) (hstep : ∀ ls a w i, I ls a w → i ∈ Region.ready .any ops ls → wpOp P ops Q i (I (ls.setIfInBounds i true)) a w)
    (hend : ∀ ls a w, I ls a w → Region.ready .any ops ls = [] → Q .normal a w) (n : Nat) : ∀ ls a w, ls.toList.countP (· == false) = n → I ls a w → wpAny P .any ops Q n ls a w := by
  induction n with
  | zero => intro ls a w hn h; exact ⟨ready_none (hsz _ _ _ h) hn, hend _ _ _ h (ready_none (hsz _ _ _ h) hn)⟩
  | succ n ih =>
    intro ls a w hn h
    refine ⟨fun hr => hend _ _ _ h hr, fun i hi => ?_⟩
    have hc := count_step (mem_ready.1 hi).1
    exact wpOp_mono (fun a' w' h' => ih _ a' w' (by omega) h') (hstep _ _ _ _ h hi)
def OgStep (P : Program) (ops : Array Oper) (Q : Exit → Act → World → Prop) (mk : (Nat → Value) → Act) (S : World → Prop) (G : World → World → Prop) (F : Nat → Value → World → Prop) (i : Nat) (o : Oper) : Prop :=
  ∀ (u : Nat → Value) (w : World), S w → (∀ e ∈ o.after, Region.binds .any e = true → F e.on (u e.on) w) →
    if Region.wanted o (yielded ops (mk u).tmps) then o.wp P (mk u) w (fun a' w' => ∃ v, a' = (mk u).put o.dst v ∧ F i v w' ∧ S w' ∧ G w w') Q else F i undef w
def OgSteps (P : Program) (ops : Array Oper) (Q : Exit → Act → World → Prop) (mk : (Nat → Value) → Act) (S : World → Prop) (G : World → World → Prop) (F : Nat → Value → World → Prop) : Nat → List Oper → Prop
  | _, [] => True
  | k, o :: l => OgStep P ops Q mk S G F k o ∧ OgSteps P ops Q mk S G F (k + 1) l
theorem OgSteps.nil {mk : (Nat → Value) → Act} {S : World → Prop} {G : World → World → Prop} {F : Nat → Value → World → Prop} {k : Nat} : OgSteps P ops Q mk S G F k [] := trivial
theorem OgSteps.cons {mk : (Nat → Value) → Act} {S : World → Prop} {G : World → World → Prop} {F : Nat → Value → World → Prop} {k : Nat} {o : Oper} {l : List Oper} (h : OgStep P ops Q mk S G F k o) (g : OgSteps P ops Q mk S G F (k + 1) l) : OgSteps P ops Q mk S G F k (o :: l) := ⟨h, g⟩
theorem OgSteps.at {mk : (Nat → Value) → Act} {S : World → Prop} {G : World → World → Prop} {F : Nat → Value → World → Prop} : ∀ {l : List Oper} {k : Nat}, OgSteps P ops Q mk S G F k l → ∀ {i : Nat} {o : Oper}, l[i]? = some o → OgStep P ops Q mk S G F (k + i) o
  | o :: l, k, h, 0, o', ho => by
    have : o = o' := by simpa using ho
    subst this
    exact h.1
  | o :: l, k, h, i + 1, o', ho => by
    have := OgSteps.at h.2 (i := i) (o := o') (by simpa using ho)
    rwa [show k + 1 + i = k + (i + 1) by omega] at this
  | [], _, _, _, _, ho => by simp at ho
def OgPut (mk : (Nat → Value) → Act) : Nat → List Oper → Prop
  | _, [] => True
  | k, o :: l => (∀ u v, (mk u).put o.dst v = mk (fun j => if j = k then v else u j)) ∧ OgPut mk (k + 1) l
theorem OgPut.at {mk : (Nat → Value) → Act} : ∀ {l : List Oper} {k : Nat}, OgPut mk k l → ∀ {i : Nat} {o : Oper}, l[i]? = some o → ∀ u v, (mk u).put o.dst v = mk (fun j => if j = k + i then v else u j)
  | o :: l, k, h, 0, o', ho => by
    have : o = o' := by simpa using ho
    subst this
    exact h.1
  | o :: l, k, h, i + 1, o', ho => by
    have := OgPut.at h.2 (i := i) (o := o') (by simpa using ho)
    rwa [show k + 1 + i = k + (i + 1) by omega] at this
  | [], _, _, _, _, ho => by simp at ho
theorem getD_set_self {ls : Array Bool} {i : Nat} (h : i < ls.size) : (ls.setIfInBounds i true).getD i false = true := by simp [h]
theorem wp_region_og {id : Nat} {a : Act} {w : World} {l : List Oper} (mk : (Nat → Value) → Act) (S : World → Prop) (G : World → World → Prop) (F : Nat → Value → World → Prop) (hm : P.follows .mixedOrders = true)
    (u0 : Nat → Value) (ha : a = mk u0) (hS : S w.drew) (hput : OgPut mk 0 l) (hG : ∀ i v w w', F i v w → S w → G w w' → F i v w')
    (hacyc : (List.range l.length).all (fun i => (l[i]?).all fun o => o.after.all fun e => !Region.binds .any e || decide (e.on < i)) = true)
    (hstep : OgSteps P l.toArray Q mk S G F 0 l) (hend : ∀ u w, S w → (∀ i, i < l.length → F i (u i) w) → Q .normal (mk u) w) : (Code.region id l.toArray true).wp P Q a w := by
  subst ha
  refine wp_region_any hm ?_
  have hsz : l.toArray.size = (Array.replicate l.toArray.size false).toList.countP (· == false) := by simp [List.countP_replicate]
  conv => arg 5; rw [hsz]
  refine wpAny_inv (ops := l.toArray) (fun ls a w => ls.size = l.toArray.size ∧ S w ∧ ∃ u, a = mk u ∧ ∀ i, ls.getD i false = true → F i (u i) w) (fun _ _ _ h => h.1) ?_ ?_ _ _ _ _ rfl ⟨by simp, hS, u0, rfl, fun i hi => ?_⟩
  · rintro ls a w i ⟨hl, hs, u, rfl, hF⟩ hi
    obtain ⟨hun, o, ho, hall⟩ := mem_ready.1 hi
    have ho' : l[i]? = some o := by simpa using ho
    have hil : i < ls.size := by
      rcases Nat.lt_or_ge i ls.size with h' | h'
      · exact h'
      · simp [h'] at hun
    have st := hstep.at ho' u w hs (fun e he hb => hF _ (hall e he hb))
    rw [Nat.zero_add] at st
    have pt := hput.at ho'
    rw [Nat.zero_add] at pt
    unfold wpOp
    simp only [ho]
    split
    · rename_i hw
      rw [if_pos hw] at st
      refine .inl (Oper.wp_mono ?_ st)
      rintro a' w' ⟨v, rfl, hv, hs', hg⟩
      refine ⟨by simpa using hl, hs', _, pt u v, fun j hj => ?_⟩
      by_cases hji : j = i
      · subst hji; simpa using hv
      · rw [getD_set_ne false (Ne.symm hji)] at hj
        simp only [hji, if_false]
        exact hG _ _ _ _ (hF j hj) hs hg
    · rename_i hw
      rw [if_neg hw] at st
      refine ⟨by simpa using hl, hs, _, pt u undef, fun j hj => ?_⟩
      by_cases hji : j = i
      · subst hji; simpa using st
      · rw [getD_set_ne false (Ne.symm hji)] at hj
        simp only [hji, if_false]
        exact hF j hj
  · rintro ls a w ⟨hl, hs, u, rfl, hF⟩ hr
    refine hend u w hs fun i hi => hF i ?_
    have key : ∀ n i, i < n → i < l.length → ls.getD i false = true := by
      intro n
      induction n with
      | zero => intro i h; omega
      | succ n ih =>
        intro i hin hil
        cases hc : ls.getD i true with
        | true =>
          have : i < ls.size := by rw [hl]; simpa using hil
          simpa [this] using hc
        | false =>
          exfalso
          have hmem : i ∈ Region.ready .any l.toArray ls := by
            refine mem_ready.2 ⟨hc, l[i], by simp [hil], fun e he hb => ?_⟩
            have h1 := List.all_eq_true.1 hacyc i (List.mem_range.2 hil)
            rw [List.getElem?_eq_getElem hil] at h1
            simp only [Option.all_some] at h1
            have h2 := Array.all_eq_true_iff_forall_mem.1 h1 e he
            simp only [hb, Bool.not_true, Bool.false_or, decide_eq_true_eq] at h2
            exact ih e.on (by omega) (by omega)
          rw [hr] at hmem
          cases hmem
    exact key (i + 1) i (by omega) hi
  · exfalso
    rcases Nat.lt_or_ge i l.length with h' | h' <;> simp [h'] at hi
def ogMk : Nat → List Oper → (Nat → Value) → Act → Act
  | _, [], _, a => a
  | k, o :: l, u, a => ogMk (k + 1) l u (a.put o.dst (u k))
def ogApart : List Oper → Bool
  | [] => true
  | o :: l => l.all (fun o' => o.dst.isNone || o.dst != o'.dst) && ogApart l
theorem put_put (a : Act) (d : Option Tmp) (x y : Value) : (a.put d x).put d y = a.put d y := by
  cases d with
  | none => rfl
  | some d => simp [Act.put]
theorem put_other (a : Act) {d e : Option Tmp} (h : d = none ∨ d ≠ e) (x y : Value) : (a.put e x).put d y = (a.put d y).put e x := by
  cases d with
  | none => rfl
  | some d =>
    cases e with
    | none => rfl
    | some e =>
      have hne : d ≠ e := fun q => h.elim (fun q => by cases q) (fun q' => q' (by rw [q]))
      simp [Act.put, Array.setIfInBounds_comm _ _ hne]
theorem ogMk_other {d : Option Tmp} {v : Value} {u : Nat → Value} : ∀ (l : List Oper) (k : Nat) (a : Act), l.all (fun o' => d.isNone || d != o'.dst) = true → (ogMk k l u a).put d v = ogMk k l u (a.put d v)
  | [], _, _, _ => rfl
  | o :: l, k, a, h => by
    simp only [List.all_cons, Bool.and_eq_true] at h
    rw [ogMk, ogMk, ogMk_other l (k + 1) _ h.2, put_other a]
    have h1 := h.1
    simp only [Bool.or_eq_true, Option.isNone_iff_eq_none, bne_iff_ne] at h1
    exact h1
theorem ogMk_same {u u' : Nat → Value} : ∀ (l : List Oper) (k : Nat) (a : Act), (∀ j, k ≤ j → u j = u' j) → ogMk k l u a = ogMk k l u' a
  | [], _, _, _ => rfl
  | o :: l, k, a, h => by rw [ogMk, ogMk, h k (Nat.le_refl _)]; exact ogMk_same l (k + 1) _ fun j hj => h j (by omega)
theorem ogMk_put {u : Nat → Value} {v : Value} : ∀ (l : List Oper) (k i : Nat) (o : Oper) (a : Act), ogApart l = true → l[i]? = some o → (ogMk k l u a).put o.dst v = ogMk k l (fun j => if j = k + i then v else u j) a
  | [], _, _, _, _, _, ho => by simp at ho
  | o' :: l, k, 0, o, a, h, ho => by
    have : o' = o := by simpa using ho
    subst this
    simp only [ogApart, Bool.and_eq_true] at h
    rw [ogMk, ogMk_other l (k + 1) _ h.1, put_put, ogMk, ogMk_same l (k + 1) _ (u := u) (u' := fun j => if j = k + 0 then v else u j) fun j hj => by rw [if_neg (by omega)]]
    simp
  | o' :: l, k, i + 1, o, a, h, ho => by
    simp only [ogApart, Bool.and_eq_true] at h
    have := ogMk_put (u := u) (v := v) l (k + 1) i o (a.put o'.dst (u k)) h.2 (by simpa using ho)
    rw [ogMk, this, ogMk]
    simp only [show k + 1 + i = k + (i + 1) by omega, show (k = k + (i + 1)) = False by simp, if_false]
theorem put_own (a : Act) (d : Option Tmp) : ∃ v, a.put d v = a := by
  cases d with
  | none => exact ⟨undef, rfl⟩
  | some d =>
    refine ⟨a.tmps.getD d undef, ?_⟩
    obtain ⟨t, ds⟩ := a
    simp only [Act.put, Act.mk.injEq, and_true]
    apply Array.ext_getElem?
    intro j
    rw [Array.getElem?_setIfInBounds]
    split
    · rename_i e
      subst e
      rcases Nat.lt_or_ge d t.size with h | h
      · simp [h]
      · simp [Nat.not_lt.2 h]
    · rfl
theorem ogMk_own : ∀ (l : List Oper) (k : Nat) (a : Act), ∃ u, ogMk k l u a = a
  | [], _, _ => ⟨fun _ => undef, rfl⟩
  | o :: l, k, a => by
    obtain ⟨v, hv⟩ := put_own a o.dst
    obtain ⟨u, hu⟩ := ogMk_own l (k + 1) a
    refine ⟨fun j => if j = k then v else u j, ?_⟩
    rw [ogMk, if_pos rfl, hv, ogMk_same l (k + 1) a (u' := u) fun j hj => by rw [if_neg (by omega)]]
    exact hu
theorem ogPut_mk (a : Act) (L : List Oper) (hL : ogApart L = true) : ∀ (l : List Oper) (k : Nat), (∀ i o, l[i]? = some o → L[k + i]? = some o) → OgPut (fun u => ogMk 0 L u a) k l
  | [], _, _ => trivial
  | o :: l, k, h => by
    refine ⟨fun u v => ?_, ogPut_mk a L hL l (k + 1) fun i o' ho => ?_⟩
    · have := ogMk_put (u := u) (v := v) L 0 k o a hL (by simpa using h 0 o rfl)
      rw [Nat.zero_add] at this
      exact this
    · have := h (i + 1) o' (by simpa using ho)
      rwa [show k + (i + 1) = k + 1 + i by omega] at this
theorem wp_region_orders {id : Nat} {a : Act} {w : World} {l : List Oper} (S : World → Prop) (G : World → World → Prop) (F : Nat → Value → World → Prop) (hm : P.follows .mixedOrders = true) (hap : ogApart l = true)
    (hacyc : (List.range l.length).all (fun i => (l[i]?).all fun o => o.after.all fun e => !Region.binds .any e || decide (e.on < i)) = true) (hS : S w.drew) (hG : ∀ i v w w', F i v w → S w → G w w' → F i v w')
    (hstep : OgSteps P l.toArray Q (fun u => ogMk 0 l u a) S G F 0 l) (hend : ∀ u w, S w → (∀ i, i < l.length → F i (u i) w) → Q .normal (ogMk 0 l u a) w) : (Code.region id l.toArray true).wp P Q a w := by
  obtain ⟨u0, hu0⟩ := ogMk_own l 0 a
  exact wp_region_og (fun u => ogMk 0 l u a) S G F hm u0 hu0.symm hS (ogPut_mk a l hap l 0 fun i o ho => by rwa [Nat.zero_add]) hG hacyc hstep hend
theorem og_value {mk : (Nat → Value) → Act} {S : World → Prop} {G : World → World → Prop} {F : Nat → Value → World → Prop} {i : Nat} {o : Oper} {u : Nat → Value} {w w' : World} {v : Value} (hg : o.guard = none)
    (hr : (execOp (mk u).eval o).run P w = .ok (.value v) w') (hF : F i v w') (hS : S w') (hG : G w w') :
    if Region.wanted o (yielded ops (mk u).tmps) then o.wp P (mk u) w (fun a' w' => ∃ v, a' = (mk u).put o.dst v ∧ F i v w' ∧ S w' ∧ G w w') Q else F i undef w := by
  rw [if_pos (by simp [Region.wanted, hg])]
  unfold Oper.wp
  rw [hr]
  exact ⟨v, rfl, hF, hS, hG⟩
theorem og_call {mk : (Nat → Value) → Act} {S : World → Prop} {G : World → World → Prop} {F : Nat → Value → World → Prop} {i : Nat} {o : Oper} {u : Nat → Value} {w : World} {f : FuncId} {args : Array Value} {R : Value → World → Prop} (hg : o.guard = none)
    (hr : (execOp (mk u).eval o).run P w = .ok (.enter f args) w) (hc : Calls P f args w fun e w' => ∃ v, e = .returned v ∧ R v w') (hF : ∀ v w', R v w' → F i v w' ∧ S w' ∧ G w w') :
    if Region.wanted o (yielded ops (mk u).tmps) then o.wp P (mk u) w (fun a' w' => ∃ v, a' = (mk u).put o.dst v ∧ F i v w' ∧ S w' ∧ G w w') Q else F i undef w := by
  rw [if_pos (by simp [Region.wanted, hg])]
  unfold Oper.wp
  rw [hr]
  refine hc.mono ?_
  rintro e w' ⟨v, rfl, hR⟩
  exact ⟨v, rfl, hF v w' hR⟩
def Stable (φ : Value → World → Prop) : Prop := ∀ v w w', φ v w → RowKit.Below w.heap.size w w' → φ v w'
def fx (c : Value) : Value → World → Prop := fun v _ => v = c
theorem stable_fx (c : Value) : Stable (fx c) := fun _ _ _ h _ => h
def fAt (Φ : List (Value → World → Prop)) (i : Nat) : Value → World → Prop := Φ.getD i (fun _ _ => True)
theorem stable_at {Φ : List (Value → World → Prop)} (h : ∀ φ ∈ Φ, Stable φ) (i : Nat) : Stable (fAt Φ i) := by
  unfold fAt
  rw [List.getD_eq_getElem?_getD]
  cases hi : Φ[i]? with
  | none => intro _ _ _ _ _; trivial
  | some φ => exact h φ (List.mem_of_getElem? hi)
theorem OgStep.made {mk : (Nat → Value) → Act} {Φ : List (Value → World → Prop)} {i : Nat} {o : Oper} {w0 : World} (hg : o.guard = none)
    (h : ∀ u w, RowKit.Below w0.heap.size w0 w → (∀ e ∈ o.after, Region.binds .any e = true → fAt Φ e.on (u e.on) w) → ∃ v w', (execOp (mk u).eval o).run P w = .ok (.value v) w' ∧ RowKit.Below w.heap.size w w' ∧ fAt Φ i v w') :
    OgStep P ops Q mk (fun w' => RowKit.Below w0.heap.size w0 w') (fun w1 w2 => RowKit.Below w1.heap.size w1 w2) (fAt Φ) i o := by
  intro u w hS hp
  obtain ⟨v, w', hr, hB, hF⟩ := h u w hS hp
  exact og_value hg hr hF (hS.trans (hB.mono hS.size)) hB
theorem OgStep.pure {mk : (Nat → Value) → Act} {Φ : List (Value → World → Prop)} {i : Nat} {o : Oper} {w0 : World} (hg : o.guard = none)
    (h : ∀ u w, RowKit.Below w0.heap.size w0 w → (∀ e ∈ o.after, Region.binds .any e = true → fAt Φ e.on (u e.on) w) → ∃ v, (execOp (mk u).eval o).run P w = .ok (.value v) w ∧ fAt Φ i v w) :
    OgStep P ops Q mk (fun w' => RowKit.Below w0.heap.size w0 w') (fun w1 w2 => RowKit.Below w1.heap.size w1 w2) (fAt Φ) i o :=
  OgStep.made hg fun u w hS hp => by
    obtain ⟨v, hr, hF⟩ := h u w hS hp
    exact ⟨v, w, hr, RowKit.Below.refl _ _, hF⟩
theorem OgStep.calls {mk : (Nat → Value) → Act} {Φ : List (Value → World → Prop)} {i : Nat} {o : Oper} {w0 : World} (hg : o.guard = none)
    (h : ∀ u w, RowKit.Below w0.heap.size w0 w → (∀ e ∈ o.after, Region.binds .any e = true → fAt Φ e.on (u e.on) w) →
      ∃ f args, (execOp (mk u).eval o).run P w = .ok (.enter f args) w ∧ Calls P f args w fun e w' => ∃ v, e = .returned v ∧ RowKit.Below w.heap.size w w' ∧ fAt Φ i v w') :
    OgStep P ops Q mk (fun w' => RowKit.Below w0.heap.size w0 w') (fun w1 w2 => RowKit.Below w1.heap.size w1 w2) (fAt Φ) i o := by
  intro u w hS hp
  obtain ⟨f, args, hr, hc⟩ := h u w hS hp
  exact og_call (R := fun v w' => RowKit.Below w.heap.size w w' ∧ fAt Φ i v w') hg hr hc fun v w' h => ⟨h.2, hS.trans (h.1.mono hS.size), h.1⟩
theorem wp_region_below {id : Nat} {a : Act} {w : World} {l : List Oper} (Φ : List (Value → World → Prop)) (hm : P.follows .mixedOrders = true) (hap : ogApart l = true)
    (hacyc : (List.range l.length).all (fun i => (l[i]?).all fun o => o.after.all fun e => !Region.binds .any e || decide (e.on < i)) = true) (hΦ : ∀ φ ∈ Φ, Stable φ)
    (hstep : OgSteps P l.toArray Q (fun u => ogMk 0 l u a) (fun w' => RowKit.Below w.heap.size w w') (fun w1 w2 => RowKit.Below w1.heap.size w1 w2) (fAt Φ) 0 l)
    (hend : ∀ u w', RowKit.Below w.heap.size w w' → (∀ i, i < l.length → fAt Φ i (u i) w') → Q .normal (ogMk 0 l u a) w') : (Code.region id l.toArray true).wp P Q a w :=
  wp_region_orders (fun w' => RowKit.Below w.heap.size w w') (fun w1 w2 => RowKit.Below w1.heap.size w1 w2) (fAt Φ) hm hap hacyc (RowKit.Below.refl _ _).drew (fun i v w1 w2 h _ hg => stable_at hΦ i v w1 w2 h hg) hstep hend
end
end Go.Proofs.YtilneflfeegnfaaGreat
namespace Go.Proofs.YtilneflfeegnfaaGreat
open Go
section
variable {P : Program} {Q : Exit → Act → World → Prop}
theorem getD_false {ls : Array Bool} {i : Nat} (h : i < ls.size) (h' : ¬ ls.getD i false = true) : ls.getD i true = false := by
  simp [h] at h' ⊢
  exact h'
theorem getD_true {ls : Array Bool} {i : Nat} (h : ls.getD i false = true) : ls.getD i true = true := by
  rcases Nat.lt_or_ge i ls.size with h' | h'
  · simpa [h'] using h
  · simp [h'] at h
theorem wp_region_last {id : Nat} {a : Act} {w : World} {l L : List Oper} {o : Oper} (S : World → Prop) (G : World → World → Prop) (F : Nat → Value → World → Prop) (hm : P.follows .mixedOrders = true) (hL : L = l ++ [o]) (hap : ogApart L = true)
    (hacyc : (List.range L.length).all (fun i => (L[i]?).all fun o => o.after.all fun e => !Region.binds .any e || decide (e.on < i)) = true)
    (hwait : (List.range l.length).all (fun i => (List.range L.length).any fun j => (L[j]?).any fun o => o.after.any fun e => Region.binds .any e && decide (e.on = i)) = true)
    (hS : S w.drew) (hG : ∀ i v w w', F i v w → S w → G w w' → F i v w')
    (hstep : OgSteps P L.toArray Q (fun u => ogMk 0 L u a) S G F 0 l)
    (hend : ∀ u w, S w → (∀ i, i < l.length → F i (u i) w) → wpList P L.toArray Q [o] (ogMk 0 L u a) w) : (Code.region id L.toArray true).wp P Q a w := by
  obtain ⟨u0, hu0⟩ := ogMk_own L 0 a
  have hput := ogPut_mk a L hap L 0 fun i o ho => by rwa [Nat.zero_add]
  have hlen : L.length = l.length + 1 := by rw [hL]; simp
  have hlast : L[l.length]? = some o := by rw [hL]; simp
  have hhead : ∀ i o', i ≠ l.length → L[i]? = some o' → l[i]? = some o' := by
    intro i o' hi ho
    rw [hL] at ho
    have : i < l.length := by
      rcases Nat.lt_or_ge i (l.length + 1) with h | h
      · omega
      · rw [List.getElem?_eq_none (by simp; omega)] at ho; cases ho
    rwa [List.getElem?_append_left this] at ho
  suffices H : ∀ a', a' = ogMk 0 L u0 a → (Code.region id L.toArray true).wp P Q a' w from H a hu0.symm
  rintro _ rfl
  refine wp_region_any hm ?_
  have hsz : L.toArray.size = (Array.replicate L.toArray.size false).toList.countP (· == false) := by simp [List.countP_replicate]
  conv => arg 5; rw [hsz]
  refine wpAny_inv (ops := L.toArray) (fun ls a' w => ls.size = L.toArray.size ∧
      ((ls.getD l.length true = false ∧ S w ∧ (∀ i, ls.getD i false = true → ∀ o', L[i]? = some o' → ∀ e ∈ o'.after, Region.binds .any e = true → ls.getD e.on false = true) ∧ ∃ u, a' = ogMk 0 L u a ∧ ∀ i, ls.getD i false = true → F i (u i) w) ∨
       ((∀ i, i < L.length → ls.getD i true = true) ∧ Q .normal a' w))) (fun _ _ _ h => h.1) ?_ ?_ _ _ _ _ rfl ⟨by simp, .inl ⟨by simp [hlen], hS, fun i hi => ?_, u0, rfl, fun i hi => ?_⟩⟩
  · rintro ls a' w i ⟨hl, h⟩ hi
    obtain ⟨hun, o', ho, hall⟩ := mem_ready.1 hi
    have ho' : L[i]? = some o' := by simpa using ho
    have hil : i < ls.size := by
      rcases Nat.lt_or_ge i ls.size with h' | h'
      · exact h'
      · simp [h'] at hun
    have hiL : i < L.length := by simpa [hl] using hil
    rcases h with ⟨hno, hs, hcl, u, rfl, hF⟩ | ⟨hdone, _⟩
    · by_cases hi' : i = l.length
      · subst hi'
        obtain rfl : o' = o := by rw [hlast] at ho'; exact (Option.some.inj ho').symm
        have key : ∀ n i, l.length ≤ i + n → i < l.length → ls.getD i false = true := by
          intro n
          induction n with
          | zero => intro i h1 h2; omega
          | succ n ih =>
            intro i h1 h2
            have hw := List.all_eq_true.1 hwait i (List.mem_range.2 h2)
            obtain ⟨j, hj, hw⟩ := List.any_eq_true.1 hw
            have hjl := List.mem_range.1 hj
            rw [List.getElem?_eq_getElem hjl, Option.any_some, Array.any_eq_true] at hw
            obtain ⟨k, hk, hw⟩ := hw
            simp only [Bool.and_eq_true, decide_eq_true_eq] at hw
            have hij : i < j := by
              have h3 := List.all_eq_true.1 hacyc j hj
              rw [List.getElem?_eq_getElem hjl, Option.all_some, Array.all_eq_true_iff_forall_mem] at h3
              have h4 := h3 _ (Array.getElem_mem hk)
              simp only [hw.1, Bool.not_true, Bool.false_or, decide_eq_true_eq] at h4
              omega
            rw [← hw.2]
            by_cases hjn : j = l.length
            · subst hjn
              have : L[l.length] = o' := by
                have := List.getElem?_eq_getElem hjl
                rw [hlast] at this
                exact (Option.some.inj this).symm
              exact hall _ (this ▸ Array.getElem_mem hk) hw.1
            · exact hcl j (ih j (by omega) (by omega)) _ (List.getElem?_eq_getElem hjl) _ (Array.getElem_mem hk) hw.1
        have key' : ∀ i, i < l.length → ls.getD i false = true := fun i hi => key l.length i (by omega) hi
        have st := hend u w hs fun i hi => hF i (key' i hi)
        have hset : ∀ i, i < L.length → (ls.setIfInBounds l.length true).getD i true = true := by
          intro j hj
          by_cases hjl : j = l.length
          · subst hjl; exact getD_true (getD_set_self hil)
          · rw [getD_set_ne true (Ne.symm hjl)]; exact getD_true (key' j (by omega))
        unfold wpOp
        simp only [ho]
        unfold wpList at st
        split
        · rename_i hw
          rw [if_pos hw] at st
          rcases st with st | st
          · exact .inl (Oper.wp_mono (fun a'' w'' h => ⟨by simpa using hl, .inr ⟨hset, h⟩⟩) st)
          · exact .inr st
        · rename_i hw
          rw [if_neg hw] at st
          exact ⟨by simpa using hl, .inr ⟨hset, st⟩⟩
      · have st := hstep.at (hhead i o' hi' ho') u w hs (fun e he hb => hF _ (hall e he hb))
        rw [Nat.zero_add] at st
        have pt := hput.at ho'
        rw [Nat.zero_add] at pt
        have hno' : (ls.setIfInBounds i true).getD l.length true = false := by rw [getD_set_ne true hi']; exact hno
        have hcl' : ∀ j, (ls.setIfInBounds i true).getD j false = true → ∀ o', L[j]? = some o' → ∀ e ∈ o'.after, Region.binds .any e = true → (ls.setIfInBounds i true).getD e.on false = true := by
          intro j hj oj hoj e he hb
          have up : ls.getD e.on false = true → (ls.setIfInBounds i true).getD e.on false = true := by
            intro h
            by_cases hei : e.on = i
            · rw [hei]; exact getD_set_self hil
            · rw [getD_set_ne false (Ne.symm hei)]; exact h
          by_cases hji : j = i
          · subst hji
            obtain rfl : oj = o' := by rw [ho'] at hoj; exact (Option.some.inj hoj).symm
            exact up (hall e he hb)
          · rw [getD_set_ne false (Ne.symm hji)] at hj
            exact up (hcl j hj oj hoj e he hb)
        unfold wpOp
        simp only [ho]
        split
        · rename_i hw
          rw [if_pos hw] at st
          refine .inl (Oper.wp_mono ?_ st)
          rintro a' w' ⟨v, rfl, hv, hs', hg⟩
          refine ⟨by simpa using hl, .inl ⟨hno', hs', hcl', _, pt u v, fun j hj => ?_⟩⟩
          by_cases hji : j = i
          · subst hji; simpa using hv
          · rw [getD_set_ne false (Ne.symm hji)] at hj
            simp only [hji, if_false]
            exact hG _ _ _ _ (hF j hj) hs hg
        · rename_i hw
          rw [if_neg hw] at st
          refine ⟨by simpa using hl, .inl ⟨hno', hs, hcl', _, pt u undef, fun j hj => ?_⟩⟩
          by_cases hji : j = i
          · subst hji; simpa using st
          · rw [getD_set_ne false (Ne.symm hji)] at hj
            simp only [hji, if_false]
            exact hF j hj
    · rw [hdone i hiL] at hun
      cases hun
  · rintro ls a' w ⟨hl, ⟨hno, hs, hcl, u, rfl, hF⟩ | ⟨_, h⟩⟩ hr
    · exfalso
      have hl' : ls.size = L.length := by simpa using hl
      have key : ∀ n i, i < n → i < L.length → ls.getD i false = true := by
        intro n
        induction n with
        | zero => intro i h; omega
        | succ n ih =>
          intro i hin hil
          by_cases hc : ls.getD i false = true
          · exact hc
          · exfalso
            have hmem : i ∈ Region.ready .any L.toArray ls := by
              refine mem_ready.2 ⟨getD_false (by omega) hc, L[i], by simp [hil], fun e he hb => ?_⟩
              have h1 := List.all_eq_true.1 hacyc i (List.mem_range.2 hil)
              rw [List.getElem?_eq_getElem hil] at h1
              simp only [Option.all_some] at h1
              have h2 := Array.all_eq_true_iff_forall_mem.1 h1 e he
              simp only [hb, Bool.not_true, Bool.false_or, decide_eq_true_eq] at h2
              exact ih e.on (by omega) (by omega)
            rw [hr] at hmem
            cases hmem
      have := getD_true (key (l.length + 1) l.length (by omega) (by omega))
      rw [hno] at this
      cases this
    · exact h
  · exfalso
    rcases Nat.lt_or_ge i L.length with h' | h' <;> simp [h'] at hi
  · exfalso
    rcases Nat.lt_or_ge i L.length with h' | h' <;> simp [h'] at hi
theorem wp_region_below_last {id : Nat} {a : Act} {w : World} {l L : List Oper} {o : Oper} (Φ : List (Value → World → Prop)) (hm : P.follows .mixedOrders = true) (hL : L = l ++ [o]) (hap : ogApart L = true)
    (hacyc : (List.range L.length).all (fun i => (L[i]?).all fun o => o.after.all fun e => !Region.binds .any e || decide (e.on < i)) = true)
    (hwait : (List.range l.length).all (fun i => (List.range L.length).any fun j => (L[j]?).any fun o => o.after.any fun e => Region.binds .any e && decide (e.on = i)) = true)
    (hΦ : ∀ φ ∈ Φ, Stable φ)
    (hstep : OgSteps P L.toArray Q (fun u => ogMk 0 L u a) (fun w' => RowKit.Below w.heap.size w w') (fun w1 w2 => RowKit.Below w1.heap.size w1 w2) (fAt Φ) 0 l)
    (hend : ∀ u w', RowKit.Below w.heap.size w w' → (∀ i, i < l.length → fAt Φ i (u i) w') → wpList P L.toArray Q [o] (ogMk 0 L u a) w') : (Code.region id L.toArray true).wp P Q a w :=
  wp_region_last (fun w' => RowKit.Below w.heap.size w w') (fun w1 w2 => RowKit.Below w1.heap.size w1 w2) (fAt Φ) hm hL hap hacyc hwait (RowKit.Below.refl _ _).drew (fun i v w1 w2 h _ hg => stable_at hΦ i v w1 w2 h hg) hstep hend
theorem wp_region_below_end {id : Nat} {a : Act} {w : World} {L : List Oper} (hne : L ≠ []) (Φ : List (Value → World → Prop)) (hm : P.follows .mixedOrders = true) (hap : ogApart L = true)
    (hacyc : (List.range L.length).all (fun i => (L[i]?).all fun o => o.after.all fun e => !Region.binds .any e || decide (e.on < i)) = true)
    (hwait : (List.range L.dropLast.length).all (fun i => (List.range L.length).any fun j => (L[j]?).any fun o => o.after.any fun e => Region.binds .any e && decide (e.on = i)) = true)
    (hΦ : ∀ φ ∈ Φ, Stable φ)
    (hstep : OgSteps P L.toArray Q (fun u => ogMk 0 L u a) (fun w' => RowKit.Below w.heap.size w w') (fun w1 w2 => RowKit.Below w1.heap.size w1 w2) (fAt Φ) 0 L.dropLast)
    (hend : ∀ u w', RowKit.Below w.heap.size w w' → (∀ i, i < L.dropLast.length → fAt Φ i (u i) w') → wpList P L.toArray Q [L.getLast hne] (ogMk 0 L u a) w') : (Code.region id L.toArray true).wp P Q a w :=
  wp_region_below_last Φ hm (List.dropLast_concat_getLast hne).symm hap hacyc hwait hΦ hstep hend
end
end Go.Proofs.YtilneflfeegnfaaGreat
namespace Go.Proofs.YtilneflfeegnfaaGreat
open Go Go.Sort
section
variable {P : Program} {ops : Array Oper} {md : Region.Mode} {C : World → Prop}
def anyHead (P : Program) (md : Region.Mode) (ops : Array Oper) (C : World → Prop) (n : Nat) (L : Array Bool → Act → Prop) : Nat → Array Bool → Act → Prop
  | 0, ls, a => L ls a
  | f + 1, ls, a => Region.ready md ops ls ≠ [] ∧ ∀ i ∈ Region.ready md ops ls, i < n ∧ qOp P ops C i (anyHead P md ops C n L f (ls.setIfInBounds i true)) a
theorem wpAny_head {n g : Nat} {L : Array Bool → Act → Prop} {Q' : Exit → Act → World → Prop} (hL : ∀ ls a w, C w → L ls a → wpAny P md ops Q' g ls a w) (f : Nat) :
    ∀ (ls : Array Bool) (a : Act) (w : World), C w → anyHead P md ops C n L f ls a → wpAny P md ops Q' (f + g) ls a w := by
  induction f with
  | zero => intro ls a w hw h; rw [Nat.zero_add]; exact hL _ _ _ hw h
  | succ f ih =>
    intro ls a w hw h
    rw [show f + 1 + g = (f + g) + 1 by omega]
    exact ⟨fun h0 => absurd h0 h.1, fun i hi => wpOp_of_qOp hw (fun a' w' hw' h' => ih _ a' w' hw' h') (h.2 i hi).2⟩
theorem head_first {n i : Nat} {oi : Oper} {v : Value} {L : Array Bool → Act → Prop} (hi : ops[i]? = some oi) (hsel : Region.noSelect ops = true)
    (hs : Region.sinkB md ops n = true) (hc : Region.chainB md ops n = true) (hn : n < ops.size) (hin : i < n) (hend : ∀ ls a, L ls a → ∀ j ∈ Region.ready md ops ls, n ≤ j) (f : Nat) :
    ∀ (ls : Array Bool) (a : Act), HeadInv md ops n ls →
      (∀ j oj, ops[j]? = some oj → j ≠ i → ls.getD j true = false → (∀ e ∈ oj.after, Region.binds md e = true → e.on ≠ i) → oi.apart ops oj = true) →
      i ∈ Region.ready md ops ls → YieldsIn P ops C oi v a → anyHead P md ops C n L f (ls.setIfInBounds i true) (a.put oi.dst v) → anyHead P md ops C n L (f + 1) ls a := by
  induction f with
  | zero =>
    intro ls a inv _ hr hy H
    refine ⟨List.ne_nil_of_mem hr, fun j hj => ?_⟩
    have hjn : j < n := Nat.lt_of_not_le fun h => tail_waits hs hc hn inv _ i rfl hin (mem_ready.1 hr).1 j h hj
    refine ⟨hjn, ?_⟩
    by_cases hji : j = i
    · subst hji
      exact hy.qOp hi H
    · exact absurd (hend _ _ H j (ready_mono hj hji)) (by omega)
  | succ f ih =>
    intro ls a inv hfree hr hy H
    refine ⟨List.ne_nil_of_mem hr, fun j hj => ?_⟩
    have hun := (mem_ready.1 hr).1
    have hjn : j < n := Nat.lt_of_not_le fun h => tail_waits hs hc hn inv _ i rfl hin hun j h hj
    refine ⟨hjn, ?_⟩
    by_cases hji : j = i
    · subst hji
      exact hy.qOp hi H
    · obtain ⟨hjun, oj, hoj, hall⟩ := mem_ready.1 hj
      have hno : ∀ e ∈ oj.after, Region.binds md e = true → e.on ≠ i := by
        intro e he hb heq
        have h1 := hall e he hb
        rw [heq, getD_both hun] at h1
        cases h1
      have step := qOp_put hoj (hfree j oj hoj hji hjun hno) (fun cs b => Region.noSelect_spec hsel i oi cs b hi) (fun cs b => Region.noSelect_spec hsel j oj cs b hoj) hy (H.2 j (ready_mono hj hji)).2
      refine qOp_mono (fun a' h3 => ih _ a' (inv.set hj hjn) ?_ (ready_mono hr (Ne.symm hji)) h3.1 ?_) step
      · intro k ok hk hki hku hkn
        refine hfree k ok hk hki ?_ hkn
        by_cases hjk : j = k
        · rw [← hjk]; exact hjun
        · rwa [getD_set_ne true hjk] at hku
      · rw [Array.setIfInBounds_comm _ _ hji]
        exact h3.2
theorem head_lex {n g : Nat} {Lq : Act → Prop} (hsel : Region.noSelect ops = true) (hs : Region.sinkB md ops n = true) (hc : Region.chainB md ops n = true) (hn : n < ops.size) :
    ∀ (l : List Oper) (k : Nat) (ls : Array Bool) (a : Act), (∀ j, j < l.length → l[j]? = ops[k + j]?) → k + l.length = n → HeadInv md ops n ls →
    Region.lexHead md ops g l.length k ls = true → wpQuiet P ops C Lq l a → anyHead P md ops C n (fun ls' a' => Region.seqB md ops g n ls' = true ∧ Lq a') l.length ls a := by
  intro l
  induction l with
  | nil =>
    intro k ls a _ hk _ hB h
    obtain rfl : k = n := by simpa using hk
    exact ⟨by simpa [Region.lexHead] using hB, h⟩
  | cons o l ih =>
    intro k ls a hl hk inv hB h
    have h0 : ops[k]? = some o := by simpa using (hl 0 (by simp)).symm
    simp only [List.length_cons, Region.lexHead, Bool.and_eq_true] at hB hk
    have hkn : k < n := by omega
    have hr : k ∈ Region.ready md ops ls := by simpa using hB.1.1
    obtain ⟨v, hy, hK⟩ := yieldsIn_of_qOp h0 (show qOp P ops C k (wpQuiet P ops C Lq l) a by unfold qOp; simp only [h0]; exact h)
    refine head_first h0 hsel hs hc hn hkn (fun ls' a' hL => seqB_ready hL.1) l.length ls a inv (Region.free_spec h0 hB.1.2) hr hy ?_
    refine ih (k + 1) _ _ (fun j hj => ?_) (by omega) (inv.set hr hkn) hB.2 hK
    have := hl (j + 1) (by simp; omega)
    simpa [Nat.add_assoc, Nat.add_comm 1 j] using this
theorem wp_region_quiet_tail {id : Nat} {Q : Exit → Act → World → Prop} {a : Act} {w : World} {l : List Oper} (n : Nat) (hm : P.follows .mixedOrders = true) (hB : Region.lexTailB .any l.toArray n = true) (hC : C { w with drawn := w.drawn + 1 })
    (h : wpQuiet P l.toArray C (fun a' => ∀ w', C w' → wpList P l.toArray Q (l.drop n) a' w') (l.take n) a) : (Code.region id l.toArray true).wp P Q a w := by
  simp only [Region.lexTailB, Bool.and_eq_true, decide_eq_true_eq] at hB
  obtain ⟨⟨⟨⟨hsel, hn⟩, hs⟩, hc⟩, hlex⟩ := hB
  have hn' : n < l.length := by simpa using hn
  have e1 : (l.take n).length = n := by simp; omega
  have e2 : (l.drop n).length = l.toArray.size - n := by simp
  have inv : HeadInv .any l.toArray n (Array.replicate l.toArray.size false) :=
    ⟨by simp, fun j oj _ hl => (by rw [getD_replicate_false] at hl; cases hl), fun t _ ht => getD_in (by simpa using ht) (getD_replicate_false _ _)⟩
  have H := head_lex (md := .any) (g := l.toArray.size - n) hsel hs hc hn (l.take n) 0 _ a (fun j hj => by
    rw [e1] at hj
    simp [hj]) (by omega) inv (by rw [e1]; exact hlex) h
  refine wp_region_any hm ?_
  have := wpAny_head (Q' := Q) (g := l.toArray.size - n) (fun ls a' w' hw' hL => by
    have := wpAny_of_seq (md := .any) (Q' := Q) (l.drop n) n ls a' w' (fun j => by simp [List.getElem?_drop]) (by rw [e2]; exact hL.1) (hL.2 w' hw')
    rwa [e2] at this) _ _ _ _ hC H
  rw [e1, show n + (l.toArray.size - n) = l.toArray.size by omega] at this
  exact this
theorem wp_region_quiet_tail_below {id : Nat} {Q : Exit → Act → World → Prop} {a : Act} {w : World} {l : List Oper} (n : Nat) (hm : P.follows .mixedOrders = true) (hB : Region.lexTailB .any l.toArray n = true)
    (h : wpQuiet P l.toArray (fun w' => ∃ p : Regrown, w' = grow (redrawn w p.d) p.os) (fun a' => ∀ w', (∃ p : Regrown, w' = grow (redrawn w p.d) p.os) → wpList P l.toArray Q (l.drop n) a' w') (l.take n) a) : (Code.region id l.toArray true).wp P Q a w :=
  wp_region_quiet_tail (C := fun w' => ∃ p : Regrown, w' = grow (redrawn w p.d) p.os) n hm hB ⟨⟨w.drawn + 1, #[]⟩, by rw [grow_empty]; rfl⟩ h
end
end Go.Proofs.YtilneflfeegnfaaGreat
namespace Go.Proofs.YtilneflfeegnfaaGreat
open Go
section
variable {P : Program} {Q : Exit → Act → World → Prop}
def waitB (L : List Oper) (k : Nat) : Bool := (List.range k).all fun i => (List.range (k + 1)).any fun j => (L[j]?).any fun o => o.after.any fun e => Region.binds .any e && decide (e.on = i)
theorem wait_all {L : List Oper} {ls : Array Bool} {k : Nat} {ok : Oper} (hk : L[k]? = some ok) (hw : waitB L k = true)
    (hacyc : (List.range L.length).all (fun i => (L[i]?).all fun o => o.after.all fun e => !Region.binds .any e || decide (e.on < i)) = true)
    (hcl : ∀ i, ls.getD i false = true → ∀ o', L[i]? = some o' → ∀ e ∈ o'.after, Region.binds .any e = true → ls.getD e.on false = true)
    (hall : ∀ e ∈ ok.after, Region.binds .any e = true → ls.getD e.on false = true) : ∀ i, i < k → ls.getD i false = true := by
  have key : ∀ n i, k ≤ i + n → i < k → ls.getD i false = true := by
    intro n
    induction n with
    | zero => intro i h1 h2; omega
    | succ n ih =>
      intro i h1 h2
      obtain ⟨j, hj, hw2⟩ := List.any_eq_true.1 (List.all_eq_true.1 hw i (List.mem_range.2 h2))
      have hjk := List.mem_range.1 hj
      have hkl := (List.getElem?_eq_some_iff.1 hk).1
      have hjl : j < L.length := by omega
      rw [List.getElem?_eq_getElem hjl, Option.any_some, Array.any_eq_true] at hw2
      obtain ⟨q, hq, hw3⟩ := hw2
      simp only [Bool.and_eq_true, decide_eq_true_eq] at hw3
      have hij : i < j := by
        have h3 := List.all_eq_true.1 hacyc j (List.mem_range.2 hjl)
        rw [List.getElem?_eq_getElem hjl, Option.all_some, Array.all_eq_true_iff_forall_mem] at h3
        have h4 := h3 _ (Array.getElem_mem hq)
        simp only [hw3.1, Bool.not_true, Bool.false_or, decide_eq_true_eq] at h4
        omega
      rw [← hw3.2]
      by_cases hjn : j = k
      · subst hjn
        have : L[j] = ok := by
          rw [List.getElem?_eq_getElem hjl] at hk
          exact Option.some.inj hk
        exact hall _ (this ▸ Array.getElem_mem hq) hw3.1
      · exact hcl j (ih j (by omega) (by omega)) _ (List.getElem?_eq_getElem hjl) _ (Array.getElem_mem hq) hw3.1
  intro i hi
  exact key k i (by omega) hi
theorem wp_region_tail {id : Nat} {a : Act} {w : World} {l T L : List Oper} (S : World → Prop) (G : World → World → Prop) (F : Nat → Value → World → Prop) (hm : P.follows .mixedOrders = true) (hL : L = l ++ T) (hT : T ≠ []) (hap : ogApart l = true)
    (hacyc : (List.range L.length).all (fun i => (L[i]?).all fun o => o.after.all fun e => !Region.binds .any e || decide (e.on < i)) = true)
    (hwait : (List.range T.length).all (fun m => waitB L (l.length + m)) = true)
    (hS : S w.drew) (hG : ∀ i v w w', F i v w → S w → G w w' → F i v w')
    (hstep : OgSteps P L.toArray Q (fun u => ogMk 0 l u a) S G F 0 l)
    (hend : ∀ u w, S w → (∀ i, i < l.length → F i (u i) w) → wpList P L.toArray Q T (ogMk 0 l u a) w) : (Code.region id L.toArray true).wp P Q a w := by
  obtain ⟨u0, hu0⟩ := ogMk_own l 0 a
  have hput := ogPut_mk a l hap l 0 fun i o ho => by rwa [Nat.zero_add]
  have hlen : L.length = l.length + T.length := by rw [hL]; simp
  have hTp : 0 < T.length := List.length_pos_iff.2 hT
  have hhead : ∀ i o', i < l.length → L[i]? = some o' → l[i]? = some o' := by
    intro i o' hi ho
    rw [hL, List.getElem?_append_left hi] at ho
    exact ho
  have htail : ∀ m, L[l.length + m]? = T[m]? := by
    intro m
    rw [hL, List.getElem?_append_right (by omega)]
    congr 1
    omega
  suffices H : ∀ a', a' = ogMk 0 l u0 a → (Code.region id L.toArray true).wp P Q a' w from H a hu0.symm
  rintro _ rfl
  refine wp_region_any hm ?_
  have hsz : L.toArray.size = (Array.replicate L.toArray.size false).toList.countP (· == false) := by simp [List.countP_replicate]
  conv => arg 5; rw [hsz]
  refine wpAny_inv (ops := L.toArray) (fun ls a' w => ls.size = L.toArray.size ∧ (∀ i, ls.getD i false = true → ∀ o', L[i]? = some o' → ∀ e ∈ o'.after, Region.binds .any e = true → ls.getD e.on false = true) ∧
      ∃ m, m ≤ T.length ∧ (∀ j, l.length + m ≤ j → j < L.length → ls.getD j false = false) ∧
      ((m = 0 ∧ S w ∧ ∃ u, a' = ogMk 0 l u a ∧ ∀ i, ls.getD i false = true → F i (u i) w) ∨
       (0 < m ∧ (∀ i, i < l.length + m → ls.getD i false = true) ∧ wpList P L.toArray Q (T.drop m) a' w))) (fun _ _ _ h => h.1) ?_ ?_ _ _ _ _ rfl ⟨by simp, fun i hi => ?_, 0, by omega, fun j h1 h2 => ?_, .inl ⟨rfl, hS, u0, rfl, fun i hi => ?_⟩⟩
  · rintro ls a' w i ⟨hl, hcl, m, hm', hno, h⟩ hi
    obtain ⟨hun, o', ho, hall⟩ := mem_ready.1 hi
    have ho' : L[i]? = some o' := by simpa using ho
    have hil : i < ls.size := by
      rcases Nat.lt_or_ge i ls.size with h' | h'
      · exact h'
      · simp [h'] at hun
    have hiL : i < L.length := by simpa [hl] using hil
    have hun' : ls.getD i false = false := by simpa [hil] using hun
    have hcl' : ∀ j, (ls.setIfInBounds i true).getD j false = true → ∀ o', L[j]? = some o' → ∀ e ∈ o'.after, Region.binds .any e = true → (ls.setIfInBounds i true).getD e.on false = true := by
      intro j hj oj hoj e he hb
      have up : ls.getD e.on false = true → (ls.setIfInBounds i true).getD e.on false = true := by
        intro h
        by_cases hei : e.on = i
        · rw [hei]; exact getD_set_self hil
        · rw [getD_set_ne false (Ne.symm hei)]; exact h
      by_cases hji : j = i
      · subst hji
        obtain rfl : oj = o' := by rw [ho'] at hoj; exact (Option.some.inj hoj).symm
        exact up (hall e he hb)
      · rw [getD_set_ne false (Ne.symm hji)] at hj
        exact up (hcl j hj oj hoj e he hb)
    by_cases hil' : i < l.length
    · rcases h with ⟨rfl, hs, u, rfl, hF⟩ | ⟨_, hdone, _⟩
      · have st := hstep.at (hhead i o' hil' ho') u w hs (fun e he hb => hF _ (hall e he hb))
        rw [Nat.zero_add] at st
        have pt := hput.at (hhead i o' hil' ho')
        rw [Nat.zero_add] at pt
        have hno' : ∀ j, l.length + 0 ≤ j → j < L.length → (ls.setIfInBounds i true).getD j false = false := fun j h1 h2 => by
          rw [getD_set_ne false (by omega)]; exact hno j h1 h2
        unfold wpOp
        simp only [ho]
        split
        · rename_i hw
          rw [if_pos hw] at st
          refine .inl (Oper.wp_mono ?_ st)
          rintro a' w' ⟨v, rfl, hv, hs', hg⟩
          refine ⟨by simpa using hl, hcl', 0, by omega, hno', .inl ⟨rfl, hs', _, pt u v, fun j hj => ?_⟩⟩
          by_cases hji : j = i
          · subst hji; simpa using hv
          · rw [getD_set_ne false (Ne.symm hji)] at hj
            simp only [hji, if_false]
            exact hG _ _ _ _ (hF j hj) hs hg
        · rename_i hw
          rw [if_neg hw] at st
          refine ⟨by simpa using hl, hcl', 0, by omega, hno', .inl ⟨rfl, hs, _, pt u undef, fun j hj => ?_⟩⟩
          by_cases hji : j = i
          · subst hji; simpa using st
          · rw [getD_set_ne false (Ne.symm hji)] at hj
            simp only [hji, if_false]
            exact hF j hj
      · rw [hdone i (by omega)] at hun'
        cases hun'
    · obtain ⟨q, rfl⟩ : ∃ q, i = l.length + q := ⟨i - l.length, by omega⟩
      have hqT : q < T.length := by omega
      have hbefore := wait_all ho' (List.all_eq_true.1 hwait q (List.mem_range.2 hqT)) hacyc hcl hall
      have hqm : q = m := by
        rcases Nat.lt_trichotomy q m with hlt | heq | hgt
        · rcases h with ⟨rfl, _⟩ | ⟨_, hdone, _⟩
          · omega
          · rw [hdone _ (by omega)] at hun'
            cases hun'
        · exact heq
        · have h1 := hbefore (l.length + m) (by omega)
          rw [hno (l.length + m) (by omega) (by omega)] at h1
          cases h1
      subst hqm
      have st : wpList P L.toArray Q (T.drop q) a' w := by
        rcases h with ⟨rfl, hs, u, rfl, hF⟩ | ⟨_, _, h⟩
        · rw [List.drop_zero]
          exact hend u w hs fun i hi => hF i (hbefore i (by omega))
        · exact h
      have hTq : T.drop q = o' :: T.drop (q + 1) := by
        rw [List.drop_eq_getElem_cons hqT]
        congr 1
        have := htail q
        rw [ho', List.getElem?_eq_getElem hqT] at this
        exact (Option.some.inj this).symm
      rw [hTq] at st
      have hno' : ∀ j, l.length + (q + 1) ≤ j → j < L.length → (ls.setIfInBounds (l.length + q) true).getD j false = false := fun j h1 h2 => by
        rw [getD_set_ne false (by omega)]; exact hno j (by omega) h2
      have hset : ∀ i, i < l.length + (q + 1) → (ls.setIfInBounds (l.length + q) true).getD i false = true := by
        intro j hj
        by_cases hjl : j = l.length + q
        · subst hjl; exact getD_set_self hil
        · rw [getD_set_ne false (Ne.symm hjl)]; exact hbefore j (by omega)
      unfold wpOp
      simp only [ho]
      unfold wpList at st
      split
      · rename_i hw
        rw [if_pos hw] at st
        rcases st with st | st
        · exact .inl (Oper.wp_mono (fun a'' w'' h => ⟨by simpa using hl, hcl', q + 1, by omega, hno', .inr ⟨by omega, hset, h⟩⟩) st)
        · exact .inr st
      · rename_i hw
        rw [if_neg hw] at st
        exact ⟨by simpa using hl, hcl', q + 1, by omega, hno', .inr ⟨by omega, hset, st⟩⟩
  · rintro ls a' w ⟨hl, hcl, m, hm', hno, h⟩ hr
    have hl' : ls.size = L.length := by simpa using hl
    have key : ∀ n i, i < n → i < L.length → ls.getD i false = true := by
      intro n
      induction n with
      | zero => intro i h; omega
      | succ n ih =>
        intro i hin hil
        by_cases hc : ls.getD i false = true
        · exact hc
        · exfalso
          have hmem : i ∈ Region.ready .any L.toArray ls := by
            refine mem_ready.2 ⟨getD_false (by omega) hc, L[i], by simp [hil], fun e he hb => ?_⟩
            have h1 := List.all_eq_true.1 hacyc i (List.mem_range.2 hil)
            rw [List.getElem?_eq_getElem hil] at h1
            simp only [Option.all_some] at h1
            have h2 := Array.all_eq_true_iff_forall_mem.1 h1 e he
            simp only [hb, Bool.not_true, Bool.false_or, decide_eq_true_eq] at h2
            exact ih e.on (by omega) (by omega)
          rw [hr] at hmem
          cases hmem
    rcases Nat.lt_or_ge m T.length with hlt | hge
    · exfalso
      have h1 := key (l.length + m + 1) (l.length + m) (by omega) (by omega)
      rw [hno _ (by omega) (by omega)] at h1
      cases h1
    · rcases h with ⟨rfl, _⟩ | ⟨_, _, h⟩
      · omega
      · rw [List.drop_eq_nil_of_le hge] at h
        exact h
  · exfalso
    rcases Nat.lt_or_ge i L.length with h' | h' <;> simp [h'] at hi
  · simp [h2]
  · exfalso
    rcases Nat.lt_or_ge i L.length with h' | h' <;> simp [h'] at hi
theorem wp_region_below_tail {id : Nat} {a : Act} {w : World} {L : List Oper} (n : Nat) (Φ : List (Value → World → Prop)) (hm : P.follows .mixedOrders = true) (hT : L.drop n ≠ []) (hap : ogApart (L.take n) = true)
    (hacyc : (List.range L.length).all (fun i => (L[i]?).all fun o => o.after.all fun e => !Region.binds .any e || decide (e.on < i)) = true)
    (hwait : (List.range (L.drop n).length).all (fun m => waitB L ((L.take n).length + m)) = true)
    (hΦ : ∀ φ ∈ Φ, Stable φ)
    (hstep : OgSteps P L.toArray Q (fun u => ogMk 0 (L.take n) u a) (fun w' => RowKit.Below w.heap.size w w') (fun w1 w2 => RowKit.Below w1.heap.size w1 w2) (fAt Φ) 0 (L.take n))
    (hend : ∀ u w', RowKit.Below w.heap.size w w' → (∀ i, i < (L.take n).length → fAt Φ i (u i) w') → wpList P L.toArray Q (L.drop n) (ogMk 0 (L.take n) u a) w') : (Code.region id L.toArray true).wp P Q a w :=
  wp_region_tail (fun w' => RowKit.Below w.heap.size w w') (fun w1 w2 => RowKit.Below w1.heap.size w1 w2) (fAt Φ) hm (List.take_append_drop n L).symm hT hap hacyc hwait (RowKit.Below.refl _ _).drew (fun i v w1 w2 h _ hg => stable_at hΦ i v w1 w2 h hg) hstep hend
theorem OgStep.skip {ops : Array Oper} {mk : (Nat → Value) → Act} {Φ : List (Value → World → Prop)} {i : Nat} {o : Oper} {w0 : World} (hi : fAt Φ i = fx undef)
    (h : ∀ u w, (∀ e ∈ o.after, Region.binds .any e = true → fAt Φ e.on (u e.on) w) → Region.wanted o (yielded ops (mk u).tmps) = false) :
    OgStep P ops Q mk (fun w' => RowKit.Below w0.heap.size w0 w') (fun w1 w2 => RowKit.Below w1.heap.size w1 w2) (fAt Φ) i o := by
  intro u w hS hp
  rw [if_neg (by rw [h u w hp]; simp), hi]
  rfl
end
end Go.Proofs.YtilneflfeegnfaaGreat
namespace Go.Proofs.YtilneflfeegnfaaGreat
open Go
section
variable {P : Program} {Q : Exit → Act → World → Prop}
variable {l : List Oper} {a : Act} {Φ : List (Value → World → Prop)} {i : Nat} {o : Oper} {w0 : World}
def Hp (Φ : List (Value → World → Prop)) (o : Oper) (u : Nat → Value) (w : World) : Prop := ∀ e ∈ o.after, Region.binds .any e = true → fAt Φ e.on (u e.on) w
end
end Go.Proofs.YtilneflfeegnfaaGreat
namespace Go.Proofs.YtilneflfeegnfaaGreat
open Go.RowKit
def cl (n : Int) : Int := if n < 0 then 0 else if 1099511627776 < n then 1099511627776 else n
theorem cl_ge (n : Int) : 0 ≤ cl n := by unfold cl; split; omega; split <;> omega
theorem cl_le (n : Int) : cl n ≤ 1099511627776 := by unfold cl; split; omega; split <;> omega
theorem cl_eq (n : Int) : min (max n 0) 1099511627776 = cl n := by unfold cl; split; omega; split <;> omega
theorem cl_eq' (n : Int) : max 0 (min n 1099511627776) = cl n := by unfold cl; split; omega; split <;> omega
theorem cl_in {n : Int} (h0 : 0 ≤ n) (h1 : n ≤ 1099511627776) : cl n = n := by unfold cl; rw [if_neg (by omega), if_neg (by omega)]
theorem clamp_any (n : Int) (w : World) : Calls Tryz.prog 79 #[.int .i64 n] w fun e w' => e = .returned (.int .i64 (cl n)) ∧ w = w' := by
  go_enter Tryz.func79, Tryz.ntmps79
  go_wp2
  go_ret
  exact ⟨ret_int (cl_eq n), rfl⟩
def si (now t : Int) : Int := cl now - cl t
theorem since_any (t n : Int) (w : World) : Calls Tryz.prog 96 #[.int .i64 t, .int .i64 n] w fun e w' => e = .returned (.int .i64 (si t n)) ∧ w = w' := by
  have C := Lib.hid fun m W => clamp_any m W
  have a := cl_ge t
  have b := cl_le t
  have c := cl_ge n
  have d := cl_le n
  go_enter Tryz.func96, Tryz.ntmps96
  go_wp2_with fail
  refine (C.out _ _).mono ?_
  rintro e w1 ⟨rfl, rfl⟩
  go_wp2_with fail
  refine (C.out _ _).mono ?_
  rintro e w1 ⟨rfl, rfl⟩
  go_wp2_with fail
  go_ret
  exact ⟨rfl, rfl⟩
def wi (now t n : Int) : Bool := decide (0 ≤ si now t) && decide (si now t < n)
structure Cf where
  a : Int
  b : Int
  c : Int
  d : Int
  e : Int
  f : Int
  g : Int
  h : Int
  i : Int
def cfl (x : Cf) : List Value := [.int .i64 x.a, .int .i64 x.b, .int .i64 x.c, .int .i64 x.d, .int .i64 x.e, .int .i64 x.f, .int .i64 x.g, .int .i64 x.h, .int .i64 x.i]
def cfv (x : Cf) : Value := .agg #[.int .i64 x.a, .int .i64 x.b, .int .i64 x.c, .int .i64 x.d, .int .i64 x.e, .int .i64 x.f, .int .i64 x.g, .int .i64 x.h, .int .i64 x.i]
def Cfx (x : Cf) : Obj := .cells #[.int .i64 x.a, .int .i64 x.b, .int .i64 x.c, .int .i64 x.d, .int .i64 x.e, .int .i64 x.f, .int .i64 x.g, .int .i64 x.h, .int .i64 x.i] 27
def zf : Cf := ⟨0, 0, 0, 0, 0, 0, 0, 0, 0⟩
structure Cm (W : World) (b : Nat) (x : Cf) : Prop where
  lt : b < W.heap.size
  c0 : W.cell? ⟨b, 0, none⟩ = some (.int .i64 x.a)
  c1 : W.cell? ⟨b, 1, none⟩ = some (.int .i64 x.b)
  c2 : W.cell? ⟨b, 2, none⟩ = some (.int .i64 x.c)
  c3 : W.cell? ⟨b, 3, none⟩ = some (.int .i64 x.d)
  c4 : W.cell? ⟨b, 4, none⟩ = some (.int .i64 x.e)
  c5 : W.cell? ⟨b, 5, none⟩ = some (.int .i64 x.f)
  c6 : W.cell? ⟨b, 6, none⟩ = some (.int .i64 x.g)
  c7 : W.cell? ⟨b, 7, none⟩ = some (.int .i64 x.h)
  c8 : W.cell? ⟨b, 8, none⟩ = some (.int .i64 x.i)
theorem cm_box (w : World) (x : Cf) : Cm (w.alloc (Cfx x)) w.heap.size x := ⟨by simp, by simp [Cfx], by simp [Cfx], by simp [Cfx], by simp [Cfx], by simp [Cfx], by simp [Cfx], by simp [Cfx], by simp [Cfx], by simp [Cfx]⟩
theorem Cm.keep {W W' : World} {b B : Nat} {x : Cf} (h : Cm W b x) (hb : Below B W W') (hB : b < B) (hs : W.heap.size ≤ W'.heap.size) : Cm W' b x :=
  ⟨Nat.lt_of_lt_of_le h.lt hs, by rw [hb.cell (p := ⟨b, 0, none⟩) hB]; exact h.c0, by rw [hb.cell (p := ⟨b, 1, none⟩) hB]; exact h.c1, by rw [hb.cell (p := ⟨b, 2, none⟩) hB]; exact h.c2, by rw [hb.cell (p := ⟨b, 3, none⟩) hB]; exact h.c3, by rw [hb.cell (p := ⟨b, 4, none⟩) hB]; exact h.c4, by rw [hb.cell (p := ⟨b, 5, none⟩) hB]; exact h.c5, by rw [hb.cell (p := ⟨b, 6, none⟩) hB]; exact h.c6, by rw [hb.cell (p := ⟨b, 7, none⟩) hB]; exact h.c7, by rw [hb.cell (p := ⟨b, 8, none⟩) hB]; exact h.c8⟩
theorem Cm.below {W W' : World} {b : Nat} {x : Cf} (h : Cm W b x) (hb : Below W.heap.size W W') : Cm W' b x := h.keep hb h.lt hb.size
theorem Cm.at {W : World} {b : Nat} {x : Cf} (h : Cm W b x) : ∀ j v, (cfl x)[j]? = some v → W.cell? ((⟨b, 0, none⟩ : Addr).add j) = some v := by
  intro j v hv
  rw [Addr.add_mid, Nat.zero_add]
  match j, hv with
  | 0, hv => simp [cfl] at hv; subst hv; exact h.c0
  | 1, hv => simp [cfl] at hv; subst hv; exact h.c1
  | 2, hv => simp [cfl] at hv; subst hv; exact h.c2
  | 3, hv => simp [cfl] at hv; subst hv; exact h.c3
  | 4, hv => simp [cfl] at hv; subst hv; exact h.c4
  | 5, hv => simp [cfl] at hv; subst hv; exact h.c5
  | 6, hv => simp [cfl] at hv; subst hv; exact h.c6
  | 7, hv => simp [cfl] at hv; subst hv; exact h.c7
  | 8, hv => simp [cfl] at hv; subst hv; exact h.c8
  | j + 9, hv => simp [cfl] at hv
theorem size27 : (Tryz.prog.info? 27).map (·.size) = some 9 := by kernel_rfl
theorem load27 {w : World} {y : Addr} {x : Cf} (h : ∀ j v, (cfl x)[j]? = some v → w.cell? (y.add j) = some v) : (Instr.loadAt 27 (.pointer (some y))).run Tryz.prog w = .ok (cfv x) w := by
  have hl' : (loadCells y 9).run Tryz.prog w = .ok (cfl x).toArray w := run_loadCells_list (P := Tryz.prog) w y (cfl x) h
  obtain ⟨i, hi, hs⟩ := Option.map_eq_some_iff.1 size27
  have hg : (isAgg 27).run Tryz.prog w = .ok true w := by
    unfold isAgg
    simp only [Sem.run_bind, run_underlying Tryz.underlying27, Result.andThen_ok, Sem.run_pure]
  have hz : (Go.sizeOf 27).run Tryz.prog w = .ok 9 w := by
    rw [← hs]
    simp [Go.sizeOf, typeInfo, hi]
  simp only [Instr.loadAt, Instr.sureAddr, loadVar, Sem.run_bind, Sem.run_pure, Result.andThen_ok, hg, hz, hl', if_true]
  rfl
theorem at_load27 {ops : Array Oper} {rest : List Oper} {op : Oper} {a : Act} {w : World} {Q : Exit → Act → World → Prop} (x : Operand) (hgd : op.guard = none) (ho : op.op = .load 27 x) (y : Addr) (z : Cf) (hx : a.eval x = .pointer (some y)) (hr : ∀ j v, (cfl z)[j]? = some v → w.cell? (y.add j) = some v)
    (h : wpList Tryz.prog ops Q rest (a.put op.dst (.agg #[.int .i64 z.a, .int .i64 z.b, .int .i64 z.c, .int .i64 z.d, .int .i64 z.e, .int .i64 z.f, .int .i64 z.g, .int .i64 z.h, .int .i64 z.i])) w) : wpList Tryz.prog ops Q (op :: rest) a w :=
  wpList_plain hgd fun _ hK => by
    unfold Oper.wp execOp
    simp only [ho, hx, Sem.run_bind, Sem.run_pure, Result.andThen_ok, load27 hr]
    exact hK _ _ h
theorem nine {k : Nat} (h : k < 9) : k = 0 ∨ k = 1 ∨ k = 2 ∨ k = 3 ∨ k = 4 ∨ k = 5 ∨ k = 6 ∨ k = 7 ∨ k = 8 := by omega
theorem cfl_one (x : Cf) : (cfl x).toArray.all (·.oneCell') = true := by simp [cfl, Value.oneCell']
def Cb (w : World) (b : Nat) (x : Cf) : Prop := w.rangeAt b 0 (cfl x) ∧ w.there b 0 9
theorem cb_box (w : World) (x : Cf) : Cb (w.alloc (Cfx x)) w.heap.size x := by
  have h : (w.alloc (Cfx x)).heap[w.heap.size]? = some (Cfx x) := heap_alloc_new w _
  have e : ∀ j, (w.alloc (Cfx x)).cell? ⟨w.heap.size, j, none⟩ = _ := fun j => cell_of_row _ _ _ _ _ _ h
  refine ⟨fun j v hv => ?_, fun j hj => ⟨?_, ?_⟩⟩
  · rw [e, Nat.zero_add, ← hv]
    simp [cfl]
  · rw [e, Nat.zero_add]
    rcases nine hj with rfl | rfl | rfl | rfl | rfl | rfl | rfl | rfl | rfl <;> rfl
  · unfold World.frozen?
    rw [h]
    simp [Cfx]
theorem Cb.put {w : World} {b : Nat} {x : Cf} (h : Cb w b x) (y : Cf) : Cb (w.setCells b 0 (cfl y)) b y :=
  ⟨World.rangeAt_setCells_same w b 0 (cfl y) h.2, World.there_setCells h.2 b 0 (cfl y)⟩
theorem below_put {B b : Nat} {w0 : World} (hb : B ≤ b) : ∀ (vs : List Value) (o : Nat) (w : World), Below B w0 w → Below B w0 (w.setCells b o vs)
  | [], _, _, h => h
  | v :: r, o, w, h => below_put hb r (o + 1) _ (h.setCell (by exact hb) v)
theorem results_cell {P : Program} {fn : Func} {p : Tmp} {ty : TypeId} (h : fn.results = #[.cell p ty]) (tmps : Array Value) (w : World) (x : Addr) (v : Value) (hp : tmps.getD p undef = .pointer (some x)) (hl : (loadVar ty x).run P w = .ok v w) :
    (results fn tmps).run P w = .ok v w := by
  have hp' : tmps[p]?.getD undef = .pointer (some x) := by simpa using hp
  simp [results, h, hp', asAddr, hl]
theorem loadv27 {w : World} {b : Nat} {x : Cf} (h : Cb w b x) : (loadVar 27 ⟨b, 0, none⟩).run Tryz.prog w = .ok (cfv x) w := run_loadVar_mid w b 0 27 (cfl x) _ h.1 Tryz.underlying27 rfl size27
theorem at_store27 {ops : Array Oper} {rest : List Oper} {o : Oper} {a : Act} {w : World} {Q : Exit → Act → World → Prop} (x y : Operand) (b : Nat) (p q : Cf) (H : Cb w b p) (hgd : o.guard = none) (ho : o.op = .store 27 x y) (hx : a.eval x = .pointer (some ⟨b, 0, none⟩)) (hy : a.eval y = cfv q)
    (h : ∀ w', Hid (Cb w' b q) → Hid (∀ B, B ≤ b → Below B w w') → wpList Tryz.prog ops Q rest (a.put o.dst undef) w') : wpList Tryz.prog ops Q (o :: rest) a w :=
  wpList_store_mid hgd 27 x y ho b 0 (cfl q).toArray hx hy H.2 size27 (cfl_one q) (h _ (H.put q) (fun _ hB => below_put hB _ _ _ (Below.refl _ _)))
structure Hc where
  (a b c d e f g h i : Int)
structure Hc.Ok (y : Hc) : Prop where
  a : 0 ≤ y.a ∧ y.a < 256
  b : 0 ≤ y.b ∧ y.b < 256
  c : 0 ≤ y.c ∧ y.c < 256
  d : 0 ≤ y.d ∧ y.d < 256
  e : 0 ≤ y.e ∧ y.e < 256
  f : 0 ≤ y.f ∧ y.f < 256
  g : 0 ≤ y.g ∧ y.g < 256
  h : 0 ≤ y.h ∧ y.h < 256
  i : 0 ≤ y.i ∧ y.i < 256
def hv (y : Hc) : Value := .agg #[.int .u8 y.a, .int .u8 y.b, .int .u8 y.c, .int .u8 y.d, .int .u8 y.e, .int .u8 y.f, .int .u8 y.g, .int .u8 y.h, .int .u8 y.i]
def hl (y : Hc) : List Value := [.int .u8 y.a, .int .u8 y.b, .int .u8 y.c, .int .u8 y.d, .int .u8 y.e, .int .u8 y.f, .int .u8 y.g, .int .u8 y.h, .int .u8 y.i]
def Hcx (y : Hc) : Obj := .cells #[.int .u8 y.a, .int .u8 y.b, .int .u8 y.c, .int .u8 y.d, .int .u8 y.e, .int .u8 y.f, .int .u8 y.g, .int .u8 y.h, .int .u8 y.i] 23
def ch (y : Hc) : Cf := ⟨1 + y.a % 30, 1 + y.a % 30 + y.b % 60, 1 + y.c % 6, 1 + y.d % 20, 1 + y.e % 9, 1 + y.f % 6, y.g % 4, 1 + y.h % 40, y.i % 50⟩
set_option maxRecDepth 100000 in
set_option maxHeartbeats 2000000 in
theorem choice_any (y : Hc) (w : World) (h : y.Ok) : Calls Tryz.prog 12 #[hv y] w fun e w' => e = .returned (cfv (ch y)) ∧ Below w.heap.size w w' := by
  have P0 := Lib.hid (cb_box (w.alloc (Hcx y)) zf)
  have B0 := Lib.hid (((Below.refl w.heap.size w).alloc (Nat.le_refl _) (Hcx y)).alloc (by simp) (Cfx zf))
  rw [World.size_alloc] at P0
  obtain ⟨⟨a0, a1⟩, ⟨b0, b1⟩, ⟨c0, c1⟩, ⟨d0, d1⟩, ⟨e0, e1⟩, ⟨f0, f1⟩, ⟨g0, g1⟩, ⟨h0, h1⟩, ⟨i0, i1⟩⟩ := h
  unfold hv
  go_enter Tryz.func12, Tryz.ntmps12
  go_wp2_with (refine at_store27 _ _ _ zf (ch y) P0.out rfl rfl rfl rfl ?_; intro w2 P2 B2)
  refine bodyPost_ret (results_cell rfl _ _ _ _ rfl (loadv27 P2.out)) rfl ?_
  exact ⟨rfl, B0.out.trans (B2.out _ (by omega))⟩
end Go.Proofs.YtilneflfeegnfaaGreat
namespace Go.Proofs.YtilneflfeegnfaaGreat
open Go.RowKit
theorem cells_of37 (b : Nat) : ∀ (us : List Value) (o : Nat) (w : World) (k : Nat), k ≠ b → (w.setCells b o us).heap[k]? = w.heap[k]?
  | [], _, _, _, _ => rfl
  | u :: r, o, w, k, h => (cells_of37 b r (o + 1) _ k h).trans (heap_setCell_other w ⟨b, o, none⟩ k u h)
end Go.Proofs.YtilneflfeegnfaaGreat
namespace Go.Proofs.YtilneflfeegnfaaGreat
open Go.RowKit
theorem grown_trans {w w1 w2 : World} {r r' : Option Nat} (h : w.grownBy w1 r) (g : w1.grownBy w2 r') (hr : ∀ k, r' = some k → some k = r ∨ w.heap.size ≤ k) : w.grownBy w2 r :=
  ⟨g.os.trans h.os, g.tape.trans h.tape, g.output.trans h.output, Nat.le_trans h.size g.size, fun k hk hne => (g.block k (Nat.lt_of_lt_of_le hk h.size) (fun e => by
    rcases hr k e.symm with e' | e'
    · exact hne e'
    · omega)).trans (h.block k hk hne)⟩
theorem grown_below {w w' : World} (h : Below w.heap.size w w') (r : Option Nat) : w.grownBy w' r := ⟨h.os, h.tape, h.output, h.size, fun k hk _ => h.block k hk⟩
theorem own_slice {α : Type} {E : El α} {w : World} {base : Nat} {e : TypeId} {A : Option Addr} {n m c : Nat} {xs : List α} (h : w.ownsRow base e E.N (.slice A m c) n (E.cs xs)) (hn : xs.length ≤ 140737488355328) : Rw E w A xs := by
  obtain ⟨A', c', e1, -, -, -, hR, -⟩ := own_rw h hn
  injection e1 with e1
  subst e1
  exact hR
theorem calls_fx {f : FuncId} {args : Array Value} {W : World} {v : Value} {Φ : List (Value → World → Prop)} {i : Nat} (h : Calls Tryz.prog f args W fun e w' => e = .returned v ∧ Below W.heap.size W w') (hi : fAt Φ i = fx v) :
    Calls Tryz.prog f args W fun e w' => ∃ v, e = .returned v ∧ Below W.heap.size W w' ∧ fAt Φ i v w' := h.mono fun _ _ ⟨he, hb⟩ => ⟨v, he, hb, by rw [hi]; exact rfl⟩
end Go.Proofs.YtilneflfeegnfaaGreat
namespace Go.Proofs.YtilneflfeegnfaaGreat
theorem cl_iff (t : Int) : t = cl t ↔ 0 ≤ t ∧ t ≤ 1099511627776 := by
  constructor
  · intro h; rw [h]; exact ⟨cl_ge t, cl_le t⟩
  · rintro ⟨h0, h1⟩; exact (cl_in h0 h1).symm
open Go.RowKit
end Go.Proofs.YtilneflfeegnfaaGreat
namespace Go.Proofs.YtilneflfeegnfaaGreat
open Go.RowKit
def eq6 (a0 a1 a2 a3 a4 a5 b0 b1 b2 b3 b4 b5 : Int) : Bool := decide (a0 = b0 ∧ a1 = b1 ∧ a2 = b2 ∧ a3 = b3 ∧ a4 = b4 ∧ a5 = b5)
theorem run_each {P : Program} {W : World} (f : Nat → Bool) (body : Nat → Option Bool × Unit → Sem (ForInStep (Option Bool × Unit))) :
    ∀ ks : List Nat, (∀ k ∈ ks, (body k (none, ())).run P W = .ok (if f k = true then ForInStep.yield (none, ()) else ForInStep.done (some false, ())) W) →
      (forIn ks (none, ()) body).run P W = .ok (if ks.all f = true then (none, ()) else (some false, ())) W
  | [], _ => by simp [Sem.run_pure]
  | k :: ks, h => by
    have ih := run_each f body ks (fun j hj => h j (List.mem_cons_of_mem _ hj))
    rw [List.forIn_cons, Sem.run_bind, h k (List.mem_cons_self ..), Result.andThen_ok]
    cases hk : f k
    · simp [hk, Sem.run_pure]
    · simp only [if_true]
      rw [ih]
      simp [hk]
theorem run_eq6 (a0 a1 a2 a3 a4 a5 b0 b1 b2 b3 b4 b5 : Int) (d : Nat) (W : World) :
    (Op.equalIn (d + 2) 42 (.agg #[.int .u8 a0, .int .u8 a1, .int .u8 a2, .int .u8 a3, .int .u8 a4, .int .u8 a5]) (.agg #[.int .u8 b0, .int .u8 b1, .int .u8 b2, .int .u8 b3, .int .u8 b4, .int .u8 b5])).run Tryz.prog W = .ok (eq6 a0 a1 a2 a3 a4 a5 b0 b1 b2 b3 b4 b5) W := by
  show (Op.equalIn (d + 1 + 1) 42 _ _).run Tryz.prog W = _
  have he : ∀ (x y : Int), (Op.equalIn (d + 1) 5 (.int .u8 x) (.int .u8 y)).run Tryz.prog W = .ok (x == y) W := fun (x y : Int) => run_equalIn_int (P := Tryz.prog) W d 5 .u8 .u8 x y Tryz.underlying5
  have hs : (Go.sizeOf 5).run Tryz.prog W = .ok 1 W := by simp [go_sem]
  have e1 : ∀ (xs : Array Value) (k : Nat) (x : Int), xs[k]? = some (.int .u8 x) → (part 5 xs (k * 1)).run Tryz.prog W = .ok (.int .u8 x) W := by
    intro xs k x h
    simp [part, go_sem, h]
  unfold Op.equalIn
  simp only [Sem.run_bind, run_underlying Tryz.underlying42, Result.andThen_ok, hs]
  have hl : List.range' 0 6 1 = [0, 1, 2, 3, 4, 5] := rfl
  rw [Std.Legacy.Range.forIn_eq_forIn_range']
  simp only [Std.Legacy.Range.size]
  simp only [Nat.sub_zero, Nat.add_one_sub_one, Nat.reduceAdd, Nat.reduceDiv, hl]
  have ae0 := e1 #[.int .u8 a0, .int .u8 a1, .int .u8 a2, .int .u8 a3, .int .u8 a4, .int .u8 a5] 0 a0 rfl
  have ae1 := e1 #[.int .u8 a0, .int .u8 a1, .int .u8 a2, .int .u8 a3, .int .u8 a4, .int .u8 a5] 1 a1 rfl
  have ae2 := e1 #[.int .u8 a0, .int .u8 a1, .int .u8 a2, .int .u8 a3, .int .u8 a4, .int .u8 a5] 2 a2 rfl
  have ae3 := e1 #[.int .u8 a0, .int .u8 a1, .int .u8 a2, .int .u8 a3, .int .u8 a4, .int .u8 a5] 3 a3 rfl
  have ae4 := e1 #[.int .u8 a0, .int .u8 a1, .int .u8 a2, .int .u8 a3, .int .u8 a4, .int .u8 a5] 4 a4 rfl
  have ae5 := e1 #[.int .u8 a0, .int .u8 a1, .int .u8 a2, .int .u8 a3, .int .u8 a4, .int .u8 a5] 5 a5 rfl
  have be0 := e1 #[.int .u8 b0, .int .u8 b1, .int .u8 b2, .int .u8 b3, .int .u8 b4, .int .u8 b5] 0 b0 rfl
  have be1 := e1 #[.int .u8 b0, .int .u8 b1, .int .u8 b2, .int .u8 b3, .int .u8 b4, .int .u8 b5] 1 b1 rfl
  have be2 := e1 #[.int .u8 b0, .int .u8 b1, .int .u8 b2, .int .u8 b3, .int .u8 b4, .int .u8 b5] 2 b2 rfl
  have be3 := e1 #[.int .u8 b0, .int .u8 b1, .int .u8 b2, .int .u8 b3, .int .u8 b4, .int .u8 b5] 3 b3 rfl
  have be4 := e1 #[.int .u8 b0, .int .u8 b1, .int .u8 b2, .int .u8 b3, .int .u8 b4, .int .u8 b5] 4 b4 rfl
  have be5 := e1 #[.int .u8 b0, .int .u8 b1, .int .u8 b2, .int .u8 b3, .int .u8 b4, .int .u8 b5] 5 b5 rfl
  rw [run_each (fun k => [a0, a1, a2, a3, a4, a5].getD k 0 == [b0, b1, b2, b3, b4, b5].getD k 0) _ [0, 1, 2, 3, 4, 5] (by
    intro k hk
    simp only [List.mem_cons, List.not_mem_nil, or_false] at hk
    rcases hk with rfl | rfl | rfl | rfl | rfl | rfl
    · simp only [Sem.run_bind, ae0, be0, he, Result.andThen_ok, Sem.run_ite, Sem.run_pure, List.getD_cons_zero]
      cases (a0 == b0) <;> rfl
    · simp only [Sem.run_bind, ae1, be1, he, Result.andThen_ok, Sem.run_ite, Sem.run_pure, List.getD_cons_zero, List.getD_cons_succ]
      cases (a1 == b1) <;> rfl
    · simp only [Sem.run_bind, ae2, be2, he, Result.andThen_ok, Sem.run_ite, Sem.run_pure, List.getD_cons_zero, List.getD_cons_succ]
      cases (a2 == b2) <;> rfl
    · simp only [Sem.run_bind, ae3, be3, he, Result.andThen_ok, Sem.run_ite, Sem.run_pure, List.getD_cons_zero, List.getD_cons_succ]
      cases (a3 == b3) <;> rfl
    · simp only [Sem.run_bind, ae4, be4, he, Result.andThen_ok, Sem.run_ite, Sem.run_pure, List.getD_cons_zero, List.getD_cons_succ]
      cases (a4 == b4) <;> rfl
    · simp only [Sem.run_bind, ae5, be5, he, Result.andThen_ok, Sem.run_ite, Sem.run_pure, List.getD_cons_zero, List.getD_cons_succ]
      cases (a5 == b5) <;> rfl), Result.andThen_ok]
  unfold eq6
  simp only [List.all_cons, List.all_nil, List.getD_cons_zero, List.getD_cons_succ, Bool.and_true]
  by_cases h : a0 = b0 ∧ a1 = b1 ∧ a2 = b2 ∧ a3 = b3 ∧ a4 = b4 ∧ a5 = b5
  · obtain ⟨rfl, rfl, rfl, rfl, rfl, rfl⟩ := h
    simp [Sem.run_pure]
  · rw [decide_eq_false h, if_neg (by simpa using h)]
    simp [Sem.run_pure]
end Go.Proofs.YtilneflfeegnfaaGreat
namespace Go.Proofs
open Go.Shelf
def Tryz.srt_ren : Go.Shelf.Ren := ⟨fun | 20 => 139 | n => n, fun | 22 => 179 | 24 => 3 | 25 => 123 | n => n, fun n => n⟩
theorem Tryz.srt : Go.Proofs.SlLaysF.n20 Tryz.prog Tryz.srt_ren := {
  mixed := by kernel_rfl
  f20 := ⟨"slices.insertionSortCmpFunc[int]", by kernel_rfl, Tryz.func139.trans (congrArg some (by kernel_rfl))⟩
  t0 := Tryz.underlying0
  a0 := Tryz.isAgg0
  z0 := Tryz.sizeOf0
  v0 := Tryz.zeroValue0
  t3 := Tryz.underlying3
  a3 := Tryz.isAgg3
  z3 := Tryz.sizeOf3
  v3 := Tryz.zeroValue3
  t4 := Tryz.underlying4
  a4 := Tryz.isAgg4
  z4 := Tryz.sizeOf4
  v4 := Tryz.zeroValue4
  t22 := Tryz.underlying179
  a22 := Tryz.isAgg179
  z22 := Tryz.sizeOf179
  v22 := Tryz.zeroValue179
  a24 := Tryz.isAgg3
  z24 := Tryz.sizeOf3
  t25 := Tryz.underlying123
  a25 := Tryz.isAgg123
  z25 := Tryz.sizeOf123
  v25 := Tryz.zeroValue123 }
end Go.Proofs
namespace Go.Proofs.YtilneflfeegnfaaGreat.Cs
open Go.RowKit
structure Ca where
  a : Int
  r : Int
  d : Int
  g : Int
deriving DecidableEq
def zc : Ca := ⟨0, 0, 0, 0⟩
instance : Inhabited Ca := ⟨zc⟩
def cal (x : Ca) : List Value := [.int .u32 x.a, .int .i64 x.r, .int .i64 x.d, .int .i64 x.g]
def cav (x : Ca) : Value := .agg #[.int .u32 x.a, .int .i64 x.r, .int .i64 x.d, .int .i64 x.g]
def Cax (x : Ca) : Obj := .cells #[.int .u32 x.a, .int .i64 x.r, .int .i64 x.d, .int .i64 x.g] 74
def eA : El Ca := ⟨cal, 4, by decide, fun _ => rfl, by
  intro x u hu
  simp [cal] at hu
  rcases hu with rfl | rfl | rfl | rfl <;> rfl⟩
structure Ac where
  o : Int
  p : Int
  n : Int
def acl (x : Ac) : List Value := [.int .u8 x.o, .int .u8 x.p, .int .u8 x.n]
structure Ac.Ok (x : Ac) : Prop where
  o : 0 ≤ x.o ∧ x.o < 256
  p : 0 ≤ x.p ∧ x.p < 256
  n : 0 ≤ x.n ∧ x.n < 256
theorem size37 : (Tryz.prog.info? 74).map (·.size) = some 4 := by kernel_rfl
theorem run_size37 (W : World) : (Go.sizeOf 74).run Tryz.prog W = .ok 4 W := by
  obtain ⟨i, hi, hs⟩ := Option.map_eq_some_iff.1 size37
  rw [← hs]
  simp [Go.sizeOf, typeInfo, hi]
theorem load37 {w : World} {y : Addr} {x : Ca} (h : ∀ j v, (cal x)[j]? = some v → w.cell? (y.add j) = some v) : (Instr.loadAt 74 (.pointer (some y))).run Tryz.prog w = .ok (.agg (cal x).toArray) w := by
  have hl' : (loadCells y 4).run Tryz.prog w = .ok (cal x).toArray w := run_loadCells_list (P := Tryz.prog) w y (cal x) h
  have hg : (isAgg 74).run Tryz.prog w = .ok true w := by
    unfold isAgg
    simp only [Sem.run_bind, run_underlying Tryz.underlying74, Result.andThen_ok, Sem.run_pure]
  simp only [Instr.loadAt, Instr.sureAddr, loadVar, Sem.run_bind, Sem.run_pure, Result.andThen_ok, hg, run_size37, hl', if_true]
theorem at_load37 {ops : Array Oper} {rest : List Oper} {op : Oper} {a : Act} {w : World} {Q : Exit → Act → World → Prop} (x : Operand) (hgd : op.guard = none) (ho : op.op = .load 74 x) (y : Addr) (z : Ca) (hx : a.eval x = .pointer (some y)) (hr : ∀ j v, (cal z)[j]? = some v → w.cell? (y.add j) = some v)
    (h : wpList Tryz.prog ops Q rest (a.put op.dst (.agg #[.int .u32 z.a, .int .i64 z.r, .int .i64 z.d, .int .i64 z.g])) w) : wpList Tryz.prog ops Q (op :: rest) a w :=
  wpList_plain hgd fun _ hK => by
    unfold Oper.wp execOp
    simp only [ho, hx, Sem.run_bind, Sem.run_pure, Result.andThen_ok, load37 hr]
    exact hK _ _ h
section
variable {ops : Array Oper} {rest : List Oper} {o : Oper} {a : Act} {C : World → Prop} {Q : Act → Prop}
theorem quiet_load37 (x : Operand) (y : Addr) (p : Ca) (hr : ∀ W, C W → ∀ j v, (cal p)[j]? = some v → W.cell? (y.add j) = some v) (hw : Region.wanted o (yielded ops a.tmps) = true) (ho : o.op = .load 74 x) (hx : a.eval x = .pointer (some y)) (h : wpQuiet Tryz.prog ops C Q rest (a.put o.dst (.agg #[.int .u32 p.a, .int .i64 p.r, .int .i64 p.d, .int .i64 p.g]))) : wpQuiet Tryz.prog ops C Q (o :: rest) a :=
  BigFrame.wpQuiet_want hw fun K hK => ⟨.agg #[.int .u32 p.a, .int .i64 p.r, .int .i64 p.d, .int .i64 p.g], fun W hC => by
    unfold Oper.quietAt execOp
    simp only [ho, hx, Sem.run_bind, Sem.run_pure, Result.andThen_ok, load37 (hr W hC)]
    exact ⟨rfl, rfl⟩, hK _ h⟩
end
def eqr (x y : Ca) : Bool := decide (x = y)
theorem run_eq37 (x y : Ca) (W : World) : (Op.equalIn 10000 74 (cav x) (cav y)).run Tryz.prog W = .ok (eqr x y) W := by
  obtain ⟨a, b, d, n⟩ := x
  obtain ⟨a2, b2, d2, n2⟩ := y
  unfold cav eqr
  dsimp only
  rw [show (10000 : Nat) = 9999 + 1 from rfl, run_equalIn_struct W 9999 74 _ _ (by kernel_rfl) (by kernel_rfl)]
  by_cases h1 : a = a2
  · by_cases h2 : b = b2
    · by_cases h3 : d = d2
      · by_cases h4 : n = n2
        · simp [go_sem, part, h1, h2, h3, h4]
        · simp [go_sem, part, h1, h2, h3, h4]
      · simp [go_sem, part, h1, h2, h3]
    · simp [go_sem, part, h1, h2]
  · simp [go_sem, part, h1]
theorem run_eql37 (x y : Ca) (W : World) : (binOp .eql 74 (cav x) (cav y)).run Tryz.prog W = .ok (.bool (eqr x y)) W := by
  have := run_eql_struct (P := Tryz.prog) W 74 (cal x).toArray (cal y).toArray
  rw [show Value.agg (cal x).toArray = cav x from rfl, show Value.agg (cal y).toArray = cav y from rfl, run_eq37] at this
  exact this
theorem guard37 (op : BinOp) (p q : Operand) (x y : Ca) (W : World) : (eqGuard op 74 p q (cav x) (cav y)).run Tryz.prog W = .ok () W := run_eqGuard_agg W op 74 p q _ _ (by kernel_rfl)
section
variable {ops : Array Oper} {rest : List Oper} {o : Oper} {a : Act} {w : World} {Q : Exit → Act → World → Prop}
theorem at_load37g (x : Operand) (y : Addr) (z : Ca) (hw : Region.wanted o (yielded ops a.tmps) = true) (ho : o.op = .load 74 x) (hx : a.eval x = .pointer (some y)) (hr : ∀ j v, (cal z)[j]? = some v → w.cell? (y.add j) = some v)
    (h : wpList Tryz.prog ops Q rest (a.put o.dst (.agg #[.int .u32 z.a, .int .i64 z.r, .int .i64 z.d, .int .i64 z.g])) w) : wpList Tryz.prog ops Q (o :: rest) a w :=
  wpList_want hw fun _ hK => by
    unfold Oper.wp execOp
    simp only [ho, hx, Sem.run_bind, Sem.run_pure, Result.andThen_ok, load37 hr]
    exact hK _ _ h
end
end Go.Proofs.YtilneflfeegnfaaGreat.Cs
namespace Go.Proofs.YtilneflfeegnfaaGreat.Cs
open Go.RowKit
def zcv : Value := .agg #[.int .u32 0, .int .i64 0, .int .i64 0, .int .i64 0]
theorem info37 : (Tryz.prog.info? 74).map (fun i => (i.zero, i.size, i.bytes)) = some (some zcv, 4, 32) := by kernel_rfl
theorem tA : Ty eA 33 74 := ⟨Tryz.underlying33, by
  obtain ⟨i, hi, hz0, hz1, hz2⟩ := info_parts info37
  exact ⟨i, _, _, hi, hz0, hz1, hz2, rfl, by omega⟩⟩
section
variable {α : Type} {E : El α} {S T : TypeId} (D : Ty E S T)
include D
theorem wpList_append_rw (w : World) {ops : Array Oper} {rest : List Oper} {o : Oper} {a : Act} {Q : Exit → Act → World → Prop} (hgd : o.guard = none) (s x : Operand) (ho : o.op = .call { callee := .builtin .append, args := #[s, x], argTypes := #[S, S] })
    (base : Nat) (v : Value) (n : Nat) (xs : List α) (hs : a.eval s = v) (hown : w.ownsRow base T E.N v n (E.cs xs)) (A : Option Addr) (m c : Nat) (ys : List α) (hx : a.eval x = .slice A m c) (hm : m = ys.length) (hr : Rw E w A ys)
    (hlen : n + m ≤ 1000000000000) (hbase : base ≤ w.heap.size)
    (h : ∀ v' w', w'.ownsRow base T E.N v' (n + m) (E.cs (xs ++ ys)) → w.grownBy w' v.ownBlock → wpList Tryz.prog ops Q rest (a.put o.dst v') w') : wpList Tryz.prog ops Q (o :: rest) a w :=
  wpList_plain hgd fun _ hK => by
    obtain ⟨v', w', hrun, h2, h3⟩ := run_append_rw D w base o.type v n xs hown A m c ys hm hr hlen hbase
    unfold Oper.wp execOp
    simp only [ho, resolve, invoke, builtin, Sem.run_bind, Sem.run_pure, Result.andThen_ok, List.map_toArray, List.map_cons, List.map_nil, hs, hx, hrun]
    exact hK _ _ (h v' w' h2 h3)
end
set_option maxRecDepth 100000 in
set_option maxHeartbeats 2000000 in
theorem clone_any (A : Option Addr) (xs : List Ca) (c : Nat) (w : World) (h : Rw eA w A xs) (hn : xs.length ≤ 1000000) (hc : xs.length ≤ c) : Calls Tryz.prog 55 #[.slice A xs.length c] w (OwnPost eA 74 w xs) := by
  have HN := fun W => Lib.run_eql_slice_nil (P := Tryz.prog) W 33 74 A xs.length c 0 0 Tryz.underlying33
  rcases A with _ | y
  · obtain rfl := rw_none h
    clear h hn
    simp only [List.length_nil, Option.isNone_none] at HN ⊢
    go_enter Tryz.func55, Tryz.ntmps55
    go_wp2_with fail
    go_ret
    exact ⟨_, rfl, World.ownsRow_nil _ _ _ _, Below.refl _ _⟩
  · have R := Lib.hid (h.below ((Below.refl _ w).alloc (Nat.le_refl _) (.cells #[] 74)))
    have HO := Lib.hid (World.ownsRow_made (e := 74) (size := 4) (base := w.heap.size) w #[] 0 (Nat.le_refl _) (by unfold maxLen; omega) rfl)
    have HB := Lib.hid (show Below w.heap.size w (w.alloc (.cells #[] 74)) from (Below.refl _ w).alloc (Nat.le_refl _) _)
    obtain ⟨L, hL⟩ : ∃ L, xs.length = L := ⟨_, rfl⟩
    have HL := Lib.hid hL
    rw [hL] at hn hc HN ⊢
    clear hL h
    go_enter Tryz.func55, Tryz.ntmps55
    go_wp2_with (at_builtin; refine wpList_append_rw tA _ rfl (.tmp 5) (.tmp 6) rfl w.heap.size _ 0 [] (by simp [Act.eval, Act.put]) HO.out (some y) L c xs (by simp [Act.eval, Act.put]) HL.out.symm R.out (by omega) (by simp) ?_)
    intro v2 w2 ho2 hg2
    have O2 := Lib.hid ho2
    have B2 := Lib.hid (HB.out.grown hg2 (by simp) (fun j hj => (HO.out.lt j hj).1))
    clear ho2 hg2
    go_wp2_with fail
    go_ret
    exact ⟨_, rfl, by rw [HL.out]; simpa using O2.out, B2.out⟩
set_option maxRecDepth 100000 in
set_option maxHeartbeats 2000000 in
theorem grow_any (n : Nat) (w : World) (hn : n ≤ 1000000) : Calls Tryz.prog 128 #[.slice none 0 0, .int .i64 (n : Int)] w (OwnPost eA 74 w []) := by
  by_cases h0 : n = 0
  · subst h0
    go_enter Tryz.func128, Tryz.ntmps128
    go_wp2_with fail
    go_ret
    exact ⟨_, rfl, World.ownsRow_nil _ _ _ _, Below.refl _ _⟩
  · have h1 : 0 < n := by omega
    have h1' : (0 : Int) < n := by omega
    clear h0
    go_enter Tryz.func128, Tryz.ntmps128
    go_wp2_with (at_builtin; refine wpList_zeros tA Tryz.underlying3 _ rfl (.tmp 20) (.tmp 21) rfl n (by simp [Act.eval, Act.put]) (by simp [Act.eval, Act.put]) h1 hn ?_)
    intro C cap hge hle hsz
    have HZ := Lib.hid hsz
    have HM := Lib.hid hle
    unfold maxLen at hle
    clear hsz
    go_wp2_with fail
    go_ret
    exact ⟨_, rfl, World.ownsRow_made (w.drew) C cap (Nat.le_refl _) HM.out HZ.out, (Below.refl _ w).drew.alloc (Nat.le_refl _) _⟩
set_option maxRecDepth 100000 in
set_option maxHeartbeats 4000000 in
theorem concat_any (ps : List (Pt Ca)) (b c : Nat) (w : World) (h : Pm eA w b ps) (hn : (cat ps ps.length).length ≤ 1000000) (hps : ps.length ≤ 10) :
    Calls Tryz.prog 109 #[.slice (some ⟨b, 0, none⟩) ps.length c] w (OwnPost eA 74 w (cat ps ps.length)) := by
  have HP := Lib.hid h
  have hb := h.1
  have HC := Lib.hid (cat_le ps)
  have HS := Lib.hid (fun (k : Nat) (p : Pt Ca) (h : ps[k]? = some p) => cat_snoc h)
  obtain ⟨L, hL⟩ : ∃ L, ps.length = L := ⟨_, rfl⟩
  have HL := Lib.hid hL
  rw [hL] at hn hps HC ⊢
  clear hL h
  go_enter Tryz.func109, Tryz.ntmps109
  go_wp2_with fail
  go_loop [3, 11] (fun s i => ∃ k : Nat, i = .int .i64 k ∧ k ≤ L ∧ s = .int .i64 ((cat ps k).length : Nat)) (fun _ i => L - (intOf i).toNat)
  case atStart => exact ⟨0, rfl, by omega, by rw [cat_zero]; rfl⟩
  case round =>
    obtain ⟨k, rfl, hk, rfl⟩ := hrel
    have hkc := HC.out k
    by_cases hlt : k < L
    · obtain ⟨p, hp⟩ : ∃ p, ps[k]? = some p := ⟨_, List.getElem?_eq_getElem (by rw [HL.out]; exact hlt)⟩
      have k0 := (HP.out.2 k p hp).1
      have hkc1 := HC.out (k + 1)
      have HK := Lib.hid (HS.out _ _ hp)
      rw [HK.out, List.length_append] at hkc1
      obtain ⟨A, xs, pc⟩ := p
      dsimp only at k0 hkc1 HK
      have HX := Lib.hid (show (cat ps (k + 1)).length = (cat ps k).length + xs.length by rw [HK.out, List.length_append])
      generalize (cat ps k).length = N at *
      clear hp
      go_wp2_with fail
      go_round
      case rel => exact ⟨k + 1, by go_num, by omega, by rw [HX.out]; go_num⟩
      case measure => simp [intOf]; omega
    · obtain rfl : k = L := by omega
      have HG := Lib.hid (grow_any (cat ps k).length w hn)
      obtain ⟨N, hN⟩ : ∃ N, (cat ps k).length = N := ⟨_, rfl⟩
      have HN := Lib.hid hN
      rw [hN] at HG hn HC ⊢
      clear hN hkc
      go_wp2_with fail
      refine HG.out.mono ?_
      rintro e w1 ⟨v1, rfl, ho, hb1⟩
      have O1 := Lib.hid ho
      have B1 := Lib.hid hb1
      clear ho hb1
      go_wp2_with fail
      go_loopw [6, 27] (fun v i wr => ∃ q : Nat, i = .int .i64 q ∧ q ≤ k ∧ Hid (wr.ownsRow w.heap.size 74 4 v (cat ps q).length (eA.cs (cat ps q)) ∧ Below w.heap.size w wr)) (fun _ i _ => k - (intOf i).toNat)
      case atStart => exact ⟨0, rfl, by omega, Lib.hid ⟨by rw [cat_zero]; exact O1.out, B1.out⟩⟩
      case round =>
        obtain ⟨q, rfl, hq, HR⟩ := hrel
        by_cases hlt : q < k
        · obtain ⟨p, hp⟩ : ∃ p, ps[q]? = some p := ⟨_, List.getElem?_eq_getElem (by rw [HL.out]; exact hlt)⟩
          obtain ⟨k0, kH⟩ := HP.out.2 q p hp
          have k1 : wr.cell? ⟨b, q, none⟩ = some (.slice p.A p.xs.length p.c) := by rw [HR.out.2.cell (p := ⟨b, q, none⟩) hb]; exact k0
          have kH1 := kH.below HR.out.2
          have hkc1 := HC.out (q + 1)
          have HK := Lib.hid (HS.out _ _ hp)
          rw [HK.out, List.length_append] at hkc1
          have hlen : (cat ps q).length + p.xs.length ≤ 1000000000000 := by omega
          obtain ⟨A, xs, pc⟩ := p
          dsimp only at k1 kH1 hkc1 HK hlen
          have hbase : w.heap.size ≤ wr.heap.size := HR.out.2.size
          have ho := HR.out.1
          have HH := Lib.hid kH1
          clear hp k0 kH kH1
          go_wp2_with (at_builtin; refine wpList_append_rw tA _ rfl (.tmp 31) (.tmp 32) rfl w.heap.size _ _ _ (by simp [Act.eval, Act.put]) ho A xs.length pc xs (by simp [Act.eval, Act.put]) rfl HH.out hlen hbase ?_)
          intro v2 w2 ho2 hg2
          have O2 := Lib.hid ho2
          have B2 := Lib.hid (HR.out.2.grown hg2 hbase (fun j hj => (ho.lt j hj).1))
          clear ho2 hg2 ho
          go_wp2_with fail
          go_roundw
          case rel => exact ⟨q + 1, by go_num, by omega, Lib.hid ⟨by rw [HK.out, List.length_append]; exact O2.out, B2.out⟩⟩
          case measure => simp [intOf]; omega
        · obtain rfl : q = k := by omega
          go_wp2_with fail
          go_ret
          exact ⟨_, rfl, HR.out.1, HR.out.2⟩
end Go.Proofs.YtilneflfeegnfaaGreat.Cs
namespace Go.Proofs.YtilneflfeegnfaaGreat.Cs
open Go.RowKit
theorem within_any (t u n : Int) (w : World) : Calls Tryz.prog 95 #[.int .i64 t, .int .i64 u, .int .i64 n] w fun e w' => e = .returned (.bool (wi t u n)) ∧ w = w' := by
  have C := Lib.hid fun a b W => since_any a b W
  by_cases h : 0 ≤ si t u
  · go_enter Tryz.func95, Tryz.ntmps95
    go_wp2_with fail
    refine (C.out _ _ _).mono ?_
    rintro e w1 ⟨rfl, rfl⟩
    go_wp2_with fail
    go_ret
    exact ⟨ret_bool (by simp [wi, h]), rfl⟩
  · go_enter Tryz.func95, Tryz.ntmps95
    go_wp2_with fail
    refine (C.out _ _ _).mono ?_
    rintro e w1 ⟨rfl, rfl⟩
    go_wp2_with fail
    go_ret
    exact ⟨ret_bool (by simp [wi]; omega), rfl⟩
theorem at_load27g {ops : Array Oper} {rest : List Oper} {op : Oper} {a : Act} {w : World} {Q : Exit → Act → World → Prop} (x : Operand) (y : Addr) (z : Cf) (hw : Region.wanted op (yielded ops a.tmps) = true) (ho : op.op = .load 27 x) (hx : a.eval x = .pointer (some y)) (hr : ∀ j v, (cfl z)[j]? = some v → w.cell? (y.add j) = some v)
    (h : wpList Tryz.prog ops Q rest (a.put op.dst (.agg #[.int .i64 z.a, .int .i64 z.b, .int .i64 z.c, .int .i64 z.d, .int .i64 z.e, .int .i64 z.f, .int .i64 z.g, .int .i64 z.h, .int .i64 z.i])) w) : wpList Tryz.prog ops Q (op :: rest) a w :=
  wpList_want hw fun _ hK => by
    unfold Oper.wp execOp
    simp only [ho, hx, Sem.run_bind, Sem.run_pure, Result.andThen_ok, load27 hr]
    exact hK _ _ h
end Go.Proofs.YtilneflfeegnfaaGreat.Cs
namespace Go.Proofs.YtilneflfeegnfaaGreat.Cs
open Go.RowKit
def Qb (w : World) (b : Nat) (x : Ca) : Prop := w.rangeAt b 0 (cal x) ∧ w.there b 0 4
theorem Qb.key {w : World} {b : Nat} {x : Ca} (h : Qb w b x) : ∀ j v, (cal x)[j]? = some v → w.cell? ⟨b, j, none⟩ = some v := fun j v hv => by
  have := h.1 j v hv
  rwa [Nat.zero_add] at this
theorem Qb.at {w : World} {b : Nat} {x : Ca} (h : Qb w b x) : ∀ j v, (cal x)[j]? = some v → w.cell? ((⟨b, 0, none⟩ : Addr).add j) = some v := fun j v hv => by
  rw [Addr.add_mid, Nat.zero_add]
  exact h.key j v hv
theorem Qb.lt {w : World} {b : Nat} {x : Ca} (h : Qb w b x) : b < w.heap.size := World.block_lt_of_cell? _ _ (h.key 0 _ rfl)
theorem cal_one (x : Ca) : (cal x).toArray.all (·.oneCell') = true := by simp [cal, Value.oneCell']
theorem five {k : Nat} (h : k < 4) : k = 0 ∨ k = 1 ∨ k = 2 ∨ k = 3 := by omega
theorem qb_box (w : World) (x : Ca) : Qb (w.alloc (Cax x)) w.heap.size x := by
  have h : (w.alloc (Cax x)).heap[w.heap.size]? = some (Cax x) := heap_alloc_new w _
  have e : ∀ j, (w.alloc (Cax x)).cell? ⟨w.heap.size, j, none⟩ = _ := fun j => cell_of_row _ _ _ _ _ _ h
  refine ⟨fun j v hv => ?_, fun j hj => ⟨?_, ?_⟩⟩
  · rw [e, Nat.zero_add, ← hv]
    simp [cal]
  · rw [e, Nat.zero_add]
    rcases five hj with rfl | rfl | rfl | rfl <;> rfl
  · unfold World.frozen?
    rw [h]
    simp [Cax]
theorem Qb.keep {w w' : World} {b B : Nat} {x : Ca} (h : Qb w b x) (hb : Below B w w') (hB : b < B) : Qb w' b x :=
  ⟨fun j v hv => by rw [hb.cell (p := ⟨b, 0 + j, none⟩) hB]; exact h.1 j v hv, fun j hj => ⟨by rw [hb.cell (p := ⟨b, 0 + j, none⟩) hB]; exact (h.2 j hj).1, by rw [hb.frozen (p := ⟨b, 0 + j, none⟩) hB]; exact (h.2 j hj).2⟩⟩
theorem Qb.below {w w' : World} {b : Nat} {x : Ca} (h : Qb w b x) (hb : Below w.heap.size w w') : Qb w' b x := h.keep hb h.lt
theorem Qb.drewN {w : World} {b : Nat} {x : Ca} (h : Qb w b x) (n : Nat) : Qb (w.drewN n) b x := h.below (bdrewN (Below.refl _ _) n)
theorem Qb.put {w : World} {b : Nat} {x : Ca} (h : Qb w b x) (y : Ca) : Qb (w.setCells b 0 (cal y)) b y :=
  ⟨World.rangeAt_setCells_same w b 0 (cal y) h.2, World.there_setCells h.2 b 0 (cal y)⟩
theorem loadv37 {w : World} {b : Nat} {x : Ca} (h : Qb w b x) : (loadVar 74 ⟨b, 0, none⟩).run Tryz.prog w = .ok (cav x) w := run_loadVar_mid w b 0 74 (cal x) _ h.1 Tryz.underlying74 rfl size37
theorem at_store37 {ops : Array Oper} {rest : List Oper} {o : Oper} {a : Act} {w : World} {Q : Exit → Act → World → Prop} (x y : Operand) (b : Nat) (p q : Ca) (H : Qb w b p) (hgd : o.guard = none) (ho : o.op = .store 74 x y) (hx : a.eval x = .pointer (some ⟨b, 0, none⟩)) (hy : a.eval y = cav q)
    (h : ∀ w', Hid (Qb w' b q) → Hid (∀ B, B ≤ b → Below B w w') → Hid (∀ k, k ≠ b → w'.heap[k]? = w.heap[k]?) → wpList Tryz.prog ops Q rest (a.put o.dst undef) w') : wpList Tryz.prog ops Q (o :: rest) a w :=
  wpList_store_mid hgd 74 x y ho b 0 (cal q).toArray hx hy H.2 size37 (cal_one q) (h _ (H.put q) (fun _ hB => below_put hB _ _ _ (Below.refl _ _)) (cells_of37 b _ _ _))
theorem Qb.c {w : World} {b : Nat} {x : Ca} (h : Qb w b x) : w.cell? ⟨b, 0, none⟩ = some (.int .u32 x.a) ∧ w.cell? ⟨b, 1, none⟩ = some (.int .i64 x.r) ∧ w.cell? ⟨b, 2, none⟩ = some (.int .i64 x.d) ∧ w.cell? ⟨b, 3, none⟩ = some (.int .i64 x.g) := ⟨h.key 0 _ rfl, h.key 1 _ rfl, h.key 2 _ rfl, h.key 3 _ rfl⟩
theorem ca_box (w : World) (x : Ca) : (w.alloc (Cax x)).cell? ⟨w.heap.size, 0, none⟩ = some (.int .u32 x.a) ∧ (w.alloc (Cax x)).cell? ⟨w.heap.size, 1, none⟩ = some (.int .i64 x.r) ∧ (w.alloc (Cax x)).cell? ⟨w.heap.size, 2, none⟩ = some (.int .i64 x.d) ∧ (w.alloc (Cax x)).cell? ⟨w.heap.size, 3, none⟩ = some (.int .i64 x.g) := (qb_box w x).c
def Am (W : World) (b : Nat) (x : Ac) : Prop := ∀ j v, (acl x)[j]? = some v → W.cell? ((⟨b, 0, none⟩ : Addr).add j) = some v
theorem Am.c {W : World} {b : Nat} {x : Ac} (h : Am W b x) : W.cell? ⟨b, 0, none⟩ = some (.int .u8 x.o) ∧ W.cell? ⟨b, 1, none⟩ = some (.int .u8 x.p) ∧ W.cell? ⟨b, 2, none⟩ = some (.int .u8 x.n) := by
  have h0 := h 0 _ rfl
  have h1 := h 1 _ rfl
  have h2 := h 2 _ rfl
  rw [Addr.add_mid] at h0 h1 h2
  exact ⟨h0, h1, h2⟩
theorem Am.lt {W : World} {b : Nat} {x : Ac} (h : Am W b x) : b < W.heap.size := World.block_lt_of_cell? _ _ h.c.1
theorem Am.below {W W' : World} {b : Nat} {x : Ac} (h : Am W b x) (hb : Below W.heap.size W W') : Am W' b x := fun j v hv => by
  rw [hb.cell (by rw [add_block]; exact h.lt)]
  exact h j v hv
theorem rw_lt {α : Type} {E : El α} {w : World} {A : Option Addr} {xs : List α} (h : Rw E w A xs) : ∀ y, A = some y → 0 < xs.length → y.block < w.heap.size := fun y hy hp => by
  obtain ⟨y', hy', hc⟩ := h.2 0 xs[0] (List.getElem?_eq_getElem hp)
  rw [hy] at hy'
  obtain rfl := Option.some.inj hy'
  have hN := E.pos
  have hl := E.len xs[0]
  have hv : (E.cl xs[0])[0]? = some (E.cl xs[0])[0] := List.getElem?_eq_getElem (by omega)
  have := World.block_lt_of_cell? _ _ (hc 0 _ hv)
  rwa [add_block] at this
def Hm (W : World) (b : Nat) (x : Hc) : Prop := ∀ j v, (hl x)[j]? = some v → W.cell? ((⟨b, 0, none⟩ : Addr).add j) = some v
theorem Hm.lt {W : World} {b : Nat} {x : Hc} (h : Hm W b x) : b < W.heap.size := by
  have := World.block_lt_of_cell? _ _ (h 0 _ rfl)
  rwa [add_block] at this
theorem Hm.below {W W' : World} {b : Nat} {x : Hc} (h : Hm W b x) (hb : Below W.heap.size W W') : Hm W' b x := fun j v hv => by
  rw [hb.cell (by rw [add_block]; exact h.lt)]
  exact h j v hv
theorem rw_c0 {w : World} {y : Addr} {xs : List Ca} (R : Rw eA w (some y) xs) {k : Nat} {x : Ca} (hx : xs[k]? = some x) : w.cell? (y.add (k * 4)) = some (.int .u32 x.a) ∧ w.cell? (y.add (k * 4 + 1)) = some (.int .i64 x.r) ∧ w.cell? (y.add (k * 4 + 2)) = some (.int .i64 x.d) ∧ w.cell? (y.add (k * 4 + 3)) = some (.int .i64 x.g) := by
  obtain ⟨y', hy, hc⟩ := R.2 k x hx
  injection hy with hy
  subst hy
  exact ⟨hc 0 _ rfl, hc 1 _ rfl, hc 2 _ rfl, hc 3 _ rfl⟩
theorem rw_f {w : World} {y : Addr} {xs : List Ca} (R : Rw eA w (some y) xs) {k : Nat} {x : Ca} (hx : xs[k]? = some x) : w.cell? ⟨(y.add (k * 4)).block, (y.add (k * 4)).off + 1, none⟩ = some (.int .i64 x.r) ∧ w.cell? ⟨(y.add (k * 4)).block, (y.add (k * 4)).off + 2, none⟩ = some (.int .i64 x.d) ∧ w.cell? ⟨(y.add (k * 4)).block, (y.add (k * 4)).off + 3, none⟩ = some (.int .i64 x.g) := by
  obtain ⟨-, h1, h2, h3⟩ := rw_c0 R hx
  have e : ∀ j, 0 < j → (⟨(y.add (k * 4)).block, (y.add (k * 4)).off + j, none⟩ : Addr) = y.add (k * 4 + j) := fun j hj => by
    rw [← Addr.add_add]
    generalize y.add (k * 4) = z
    unfold Addr.add
    rw [if_neg (by omega)]
  rw [e 1 (by omega), e 2 (by omega), e 3 (by omega)]; exact ⟨h1, h2, h3⟩
theorem at_of_lt {xs : List Ca} {k : Nat} (h : k < xs.length) : ∃ x, xs[k]? = some x := ⟨_, List.getElem?_eq_getElem h⟩
theorem run_sl29 (A : Option Addr) (n c i : Nat) (hi : i ≤ c) (W : World) : (Instr.slice 33 (.slice A n c) none (some (.int .i64 (i : Int))) none).run Tryz.prog W = .ok (.slice A i c) W := by
  have h1 : (i : Int) ≤ c := by omega
  have h2 : A.map (·.add (0 * 4)) = A := by cases A <;> simp [Addr.add]
  unfold Instr.slice Instr.sliceBounds Instr.sliceBound
  simp only [Sem.run_bind, run_underlying Tryz.underlying33, Result.andThen_ok, Sem.run_pure, run_size37, asIntOf]
  try simp only [Option.isSome_none, Bool.false_eq_true, if_false, Sem.run_bind, Sem.run_pure, Result.andThen_ok]
  rw [if_pos ⟨by omega, h1⟩]
  simp only [Sem.run_bind, Sem.run_pure, Result.andThen_ok, h2, ite_self, Nat.sub_zero, Int.toNat_natCast]
theorem run_sl29l (A : Option Addr) (n c k : Nat) (hk : k ≤ n) (hc : n ≤ c) (W : World) : (Instr.slice 33 (.slice A n c) (some (.int .i64 (k : Int))) none none).run Tryz.prog W = .ok (.slice (dA 4 A c k) (n - k) (c - k)) W := by
  have h1 : (k : Int) ≤ n := by omega
  unfold Instr.slice Instr.sliceBounds Instr.sliceBound
  simp only [Sem.run_bind, run_underlying Tryz.underlying33, Result.andThen_ok, Sem.run_pure, run_size37, asIntOf]
  try simp only [Option.isSome_none, Bool.false_eq_true, if_false, Sem.run_bind, Sem.run_pure, Result.andThen_ok]
  rw [if_pos ⟨by omega, h1⟩]
  simp only [Sem.run_bind, Sem.run_pure, Result.andThen_ok, Int.toNat_natCast]
  rfl
end Go.Proofs.YtilneflfeegnfaaGreat.Cs
namespace Go.Proofs.YtilneflfeegnfaaGreat.Cs
open Go.RowKit
def opB (x : Ca) : Bool := (x.g == 0) || (x.g == 1)
def qtB (q : Int) (x : Ca) (now : Int) : Bool := (x.g == 2) && wi now x.d q
set_option maxRecDepth 100000 in
set_option maxHeartbeats 4000000 in
theorem open_any (x : Ca) (w : World) : Calls Tryz.prog 46 #[cav x] w fun e w' => e = .returned (.bool (opB x)) ∧ Below w.heap.size w w' := by
  obtain ⟨-, -, -, k3⟩ := ca_box w x
  have HB := Lib.hid (show Below w.heap.size w (w.alloc (Cax x)) from (Below.refl _ w).alloc (Nat.le_refl _) _)
  have HO := Lib.hid (show opB x = ((x.g == 0) || (x.g == 1)) from rfl)
  unfold cav Cax at *
  cases h0 : (x.g == 0)
  · have H0 := Lib.hid h0
    go_enter Tryz.func46, Tryz.ntmps46
    go_wp2_with fail
    go_ret
    exact ⟨ret_bool (by rw [HO.out, H0.out]; simp), HB.out⟩
  · have H0 := Lib.hid h0
    go_enter Tryz.func46, Tryz.ntmps46
    go_wp2_with fail
    go_ret
    exact ⟨ret_bool (by rw [HO.out, H0.out]; simp), HB.out⟩
set_option maxRecDepth 100000 in
set_option maxHeartbeats 4000000 in
theorem quiet_any (c : Cf) (x : Ca) (now : Int) (w : World) : Calls Tryz.prog 127 #[cfv c, cav x, .int .i64 now] w fun e w' => e = .returned (.bool (qtB c.i x now)) ∧ Below w.heap.size w w' := by
  have HB := Lib.hid (show Below w.heap.size w ((w.alloc (Cfx c)).alloc (Cax x)) from ((Below.refl _ w).alloc (Nat.le_refl _) _).alloc (by simp) _)
  have C1 := Lib.hid (show Cm ((w.alloc (Cfx c)).alloc (Cax x)) w.heap.size c from (cm_box w c).below ((Below.refl _ _).alloc (Nat.le_refl _) _))
  have Q1 := Lib.hid (show Qb ((w.alloc (Cfx c)).alloc (Cax x)) (w.heap.size + 1) x by have := qb_box (w.alloc (Cfx c)) x; simpa using this)
  have HW := Lib.hid fun W => within_any now x.d c.i W
  have HO := Lib.hid (show qtB c.i x now = ((x.g == 2) && wi now x.d c.i) from rfl)
  unfold cav Cax cfv Cfx at *
  cases h0 : (x.g == 2)
  · have H0 := Lib.hid h0
    go_enter Tryz.func127, Tryz.ntmps127
    go_wp2_with fail
    go_ret
    exact ⟨ret_bool (by rw [HO.out, H0.out]; rfl), HB.out⟩
  · have H0 := Lib.hid h0
    go_enter Tryz.func127, Tryz.ntmps127
    go_upto_region 1 with fail
    have hsz : w.heap.size + 1 < ((w.alloc (.cells #[.int .i64 c.a, .int .i64 c.b, .int .i64 c.c, .int .i64 c.d, .int .i64 c.e, .int .i64 c.f, .int .i64 c.g, .int .i64 c.h, .int .i64 c.i] 27)).alloc (.cells #[.int .u32 x.a, .int .i64 x.r, .int .i64 x.d, .int .i64 x.g] 74)).heap.size := by simp
    generalize (w.alloc (.cells #[.int .i64 c.a, .int .i64 c.b, .int .i64 c.c, .int .i64 c.d, .int .i64 c.e, .int .i64 c.f, .int .i64 c.g, .int .i64 c.h, .int .i64 c.i] 27)).alloc (.cells #[.int .u32 x.a, .int .i64 x.r, .int .i64 x.d, .int .i64 x.g] 74) = W at *
    obtain ⟨q0, q1, q2, q3⟩ := Q1.out.c
    have c8 := C1.out.c8
    go_wp2_with fail
    refine (HW.out _).mono ?_
    rintro e w1 ⟨rfl, rfl⟩
    go_wp2_with fail
    go_ret
    exact ⟨ret_bool (by rw [HO.out, H0.out]; simp), HB.out⟩
end Go.Proofs.YtilneflfeegnfaaGreat.Cs
namespace Go.Proofs.YtilneflfeegnfaaGreat.Cs
open Go.RowKit
def fm (a : Int) (x : Ca) : Bool := (x.a == a) && opB x
def fnd (a : Int) (xs : List Ca) : Option Nat := xs.findIdx? (fm a)
def fnI (o : Option Nat) : Int := match o with
  | some k => (k : Int)
  | none => -1
theorem fnd_take {a : Int} {xs : List Ca} {k : Nat} {x : Ca} (h : fnd a (xs.take k) = none) (hx : xs[k]? = some x) : fnd a (xs.take (k + 1)) = if fm a x = true then some k else none := by
  unfold fnd at *
  have hl : (xs.take k).length = k := by rw [List.length_take]; have := (List.getElem?_eq_some_iff.1 hx).1; omega
  rw [List.take_add_one, hx, List.findIdx?_append, h]
  simp only [Option.toList_some, Option.none_or, List.findIdx?_cons, List.findIdx?_nil, hl]
  split <;> simp
theorem fnd_found {a : Int} {xs : List Ca} {k : Nat} {x : Ca} (h : fnd a (xs.take k) = none) (hx : xs[k]? = some x) (hm : fm a x = true) : fnd a xs = some k := by
  have h2 := fnd_take h hx
  rw [if_pos hm] at h2
  unfold fnd at *
  have e : xs = xs.take (k + 1) ++ xs.drop (k + 1) := (List.take_append_drop _ _).symm
  rw [e, List.findIdx?_append, h2]
  rfl
theorem fnd_lt {a : Int} {xs : List Ca} {k : Nat} (h : fnd a xs = some k) : k < xs.length := by
  unfold fnd at h
  obtain ⟨h1, _⟩ := List.findIdx?_eq_some_iff_getElem.1 h
  exact h1
def am (q a now : Int) (x : Ca) : Bool := (x.a == a) && qtB q x now
def aqB (q a now : Int) (xs : List Ca) : Bool := xs.any (am q a now)
theorem aq_take {q a now : Int} {xs : List Ca} {k : Nat} {x : Ca} (hx : xs[k]? = some x) : aqB q a now (xs.take (k + 1)) = (aqB q a now (xs.take k) || am q a now x) := by
  unfold aqB
  rw [List.take_add_one, hx]
  simp
theorem aq_yes {q a now : Int} {xs : List Ca} {k : Nat} {x : Ca} (hx : xs[k]? = some x) (h : am q a now x = true) : aqB q a now xs = true := List.any_eq_true.2 ⟨x, List.mem_of_getElem? hx, h⟩
set_option maxRecDepth 100000 in
set_option maxHeartbeats 4000000 in
theorem find_any (a : Int) (A : Option Addr) (xs : List Ca) (cap : Nat) (w : World) (h : Rw eA w A xs) :
    Calls Tryz.prog 23 #[.slice A xs.length cap, .int .u32 a] w fun e w' => e = .returned (.int .i64 (fnI (fnd a xs))) ∧ Below w.heap.size w w' := by
  have hln := h.1
  have R := Lib.hid h
  have HOP := Lib.hid fun x W => open_any x W
  clear h
  obtain ⟨L, hL⟩ : ∃ L, xs.length = L := ⟨_, rfl⟩
  have HL := Lib.hid hL
  rw [hL] at hln ⊢
  clear hL
  go_enter Tryz.func23, Tryz.ntmps23
  go_wp2_with fail
  go_loopw [9] (fun i wr => ∃ k : Nat, i = .int .i64 k ∧ k ≤ L ∧ Hid (Below w.heap.size w wr) ∧ Hid (fnd a (xs.take k) = none)) (fun i _ => L - (intOf i).toNat)
  case atStart => exact ⟨0, rfl, by omega, Lib.hid (Below.refl _ _), Lib.hid (by simp [fnd])⟩
  case round =>
    obtain ⟨k, rfl, hk, HW, HF⟩ := hrel
    by_cases hkL : k < L
    · obtain ⟨x, hx⟩ := at_of_lt (xs := xs) (k := k) (by rw [HL.out]; exact hkL)
      obtain ⟨y, rfl⟩ := rw_some R.out (by rw [HL.out]; omega)
      have hat := (R.out.below HW.out).at hx
      have B1 := Lib.hid (show Below w.heap.size w (wr.alloc (Cax x)) from HW.out.alloc HW.out.size _)
      have Q1 := Lib.hid (qb_box wr x)
      have HPT := Lib.hid fun hm => fnd_take (a := a) HF.out hx |>.trans (if_neg hm)
      have HPF := Lib.hid fun hm => fnd_found (a := a) HF.out hx hm
      have HM := Lib.hid (show fm a x = ((x.a == a) && opB x) from rfl)
      have HO := HOP.out x
      clear hx
      obtain ⟨s0, s1, s2, s3⟩ := ca_box wr x
      unfold cav Cax at *
      cases he : (x.a == a)
      · have HE := Lib.hid he
        go_wp2_with (refine at_load37 (.tmp 12) rfl rfl (y.add (k * 4)) x rfl hat ?_)
        go_roundw
        case rel => exact ⟨k + 1, by go_num, by omega, B1, Lib.hid (HPT.out (by rw [HM.out, HE.out]; simp))⟩
        case measure => simp [intOf]; omega
      · have HE := Lib.hid he
        have HO := Lib.hid HO
        go_wp2_with (first | (refine at_load37 (.tmp 12) rfl rfl (y.add (k * 4)) x rfl hat ?_) | (refine at_load37g (.tmp 6) _ x rfl ?_ rfl Q1.out.at ?_; (with_reducible rfl)))
        obtain ⟨b, hb0⟩ : ∃ b, opB x = b := ⟨_, rfl⟩
        rw [hb0] at HO HM
        refine (HO.out _).mono ?_
        rintro e w1 ⟨rfl, hb⟩
        have B2 := Lib.hid (B1.out.trans (hb.mono B1.out.size))
        clear hb hb0
        cases b
        · go_wp2_with fail
          go_roundw
          case rel => exact ⟨k + 1, by go_num, by omega, B2, Lib.hid (HPT.out (by rw [HM.out]; simp))⟩
          case measure => simp [intOf]; omega
        · go_wp2_with fail
          go_ret
          exact ⟨by rw [HPF.out (by rw [HM.out, HE.out]; rfl)]; rfl, B2.out⟩
    · obtain rfl : k = L := by omega
      have HP := Lib.hid (show fnd a xs = none by rw [← HF.out, List.take_of_length_le (by rw [HL.out]; exact Nat.le_refl _)])
      go_wp2_with fail
      go_ret
      exact ⟨by rw [HP.out]; rfl, HW.out⟩
set_option maxRecDepth 100000 in
set_option maxHeartbeats 4000000 in
theorem anyQuiet_any (c : Cf) (a now : Int) (A : Option Addr) (xs : List Ca) (cap : Nat) (w : World) (h : Rw eA w A xs) :
    Calls Tryz.prog 108 #[cfv c, .slice A xs.length cap, .int .u32 a, .int .i64 now] w fun e w' => e = .returned (.bool (aqB c.i a now xs)) ∧ Below w.heap.size w w' := by
  have hln := h.1
  have HB := Lib.hid (show Below w.heap.size w (w.alloc (Cfx c)) from (Below.refl _ w).alloc (Nat.le_refl _) _)
  have R := Lib.hid (h.below HB.out)
  have C0 := Lib.hid (cm_box w c)
  have HQT := Lib.hid fun x W => quiet_any c x now W
  clear h
  obtain ⟨L, hL⟩ : ∃ L, xs.length = L := ⟨_, rfl⟩
  have HL := Lib.hid hL
  rw [hL] at hln ⊢
  clear hL
  unfold cfv Cfx at *
  go_enter Tryz.func108, Tryz.ntmps108
  go_wp2_with fail
  generalize w.alloc (.cells #[.int .i64 c.a, .int .i64 c.b, .int .i64 c.c, .int .i64 c.d, .int .i64 c.e, .int .i64 c.f, .int .i64 c.g, .int .i64 c.h, .int .i64 c.i] 27) = W at *
  go_loopw [13] (fun i wr => ∃ k : Nat, i = .int .i64 k ∧ k ≤ L ∧ Hid (Below W.heap.size W wr) ∧ Hid (aqB c.i a now (xs.take k) = false)) (fun i _ => L - (intOf i).toNat)
  case atStart => exact ⟨0, rfl, by omega, Lib.hid (Below.refl _ _), Lib.hid (by simp [aqB])⟩
  case round =>
    obtain ⟨k, rfl, hk, HW, HF⟩ := hrel
    by_cases hkL : k < L
    · obtain ⟨x, hx⟩ := at_of_lt (xs := xs) (k := k) (by rw [HL.out]; exact hkL)
      obtain ⟨y, rfl⟩ := rw_some R.out (by rw [HL.out]; omega)
      have hat := (R.out.below HW.out).at hx
      have B1 := Lib.hid (show Below W.heap.size W (wr.alloc (Cax x)) from HW.out.alloc HW.out.size _)
      have Q1 := Lib.hid (qb_box wr x)
      have C1 := Lib.hid (C0.out.below B1.out)
      have HT := Lib.hid (aq_take (q := c.i) (a := a) (now := now) hx)
      have HY := Lib.hid fun hm => aq_yes (q := c.i) (a := a) (now := now) hx hm
      have HM := Lib.hid (show am c.i a now x = ((x.a == a) && qtB c.i x now) from rfl)
      have HO := HQT.out x
      clear hx
      obtain ⟨s0, s1, s2, s3⟩ := ca_box wr x
      unfold cav Cax at *
      cases he : (x.a == a)
      · have HE := Lib.hid he
        go_wp2_with (refine at_load37 (.tmp 15) rfl rfl (y.add (k * 4)) x rfl hat ?_)
        go_roundw
        case rel => exact ⟨k + 1, by go_num, by omega, B1, Lib.hid (by rw [HT.out, HF.out, HM.out, HE.out]; rfl)⟩
        case measure => simp [intOf]; omega
      · have HE := Lib.hid he
        have HO := Lib.hid HO
        go_wp2_with (first | (refine at_load37 (.tmp 15) rfl rfl (y.add (k * 4)) x rfl hat ?_) | (refine at_load37g (.tmp 10) _ x rfl ?_ rfl Q1.out.at ?_; (with_reducible rfl)) | (refine at_load27g (.tmp 4) _ c rfl ?_ rfl C1.out.at ?_; (with_reducible rfl)))
        obtain ⟨b, hb0⟩ : ∃ b, qtB c.i x now = b := ⟨_, rfl⟩
        rw [hb0] at HO HM
        refine (HO.out _).mono ?_
        rintro e w1 ⟨rfl, hb⟩
        have B2 := Lib.hid (B1.out.trans (hb.mono B1.out.size))
        clear hb hb0
        cases b
        · go_wp2_with fail
          go_roundw
          case rel => exact ⟨k + 1, by go_num, by omega, B2, Lib.hid (by rw [HT.out, HF.out, HM.out]; simp)⟩
          case measure => simp [intOf]; omega
        · go_wp2_with fail
          go_ret
          exact ⟨by rw [HY.out (by rw [HM.out, HE.out]; rfl)]; rfl, HB.out.trans (B2.out.mono HB.out.size)⟩
    · obtain rfl : k = L := by omega
      have HP := Lib.hid (show aqB c.i a now xs = false by rw [← HF.out, List.take_of_length_le (by rw [HL.out]; exact Nat.le_refl _)])
      go_wp2_with fail
      go_ret
      exact ⟨by rw [HP.out]; rfl, HB.out.trans (HW.out.mono HB.out.size)⟩
end Go.Proofs.YtilneflfeegnfaaGreat.Cs
namespace Go.Proofs.YtilneflfeegnfaaGreat.Cs
open Go.RowKit
def sp2 (xs : List Ca) (k : Nat) (x : Ca) : Option Nat → Option Nat
  | none => some k
  | some p => if x.d < (xs.getD p zc).d then some k else some p
def sp1 (q now : Int) (xs : List Ca) (o : Option Nat) (k : Nat) (x : Ca) : Option Nat :=
  if opB x = true then o else if qtB q x now = true then o else sp2 xs k x o
def spk (q now : Int) (xs : List Ca) : Nat → Option Nat
  | 0 => none
  | k + 1 => match xs[k]? with
    | some x => sp1 q now xs (spk q now xs k) k x
    | none => spk q now xs k
theorem spk_succ {q now : Int} {xs : List Ca} {k : Nat} {x : Ca} (hx : xs[k]? = some x) : spk q now xs (k + 1) = sp1 q now xs (spk q now xs k) k x := by
  conv => lhs; unfold spk
  rw [hx]
theorem sp1_cases {q now : Int} {xs : List Ca} {o : Option Nat} {k : Nat} {x : Ca} : sp1 q now xs o k x = o ∨ (sp1 q now xs o k x = some k ∧ opB x = false ∧ qtB q x now = false) := by
  unfold sp1
  split
  · exact .inl rfl
  · rename_i h1
    split
    · exact .inl rfl
    · rename_i h2
      have e1 : opB x = false := by simpa using h1
      have e2 : qtB q x now = false := by simpa using h2
      cases o with
      | none => exact .inr ⟨rfl, e1, e2⟩
      | some p =>
        dsimp only [sp2]
        by_cases hd : x.d < (xs.getD p zc).d
        · rw [if_pos hd]; exact .inr ⟨rfl, e1, e2⟩
        · rw [if_neg hd]; exact .inl rfl
theorem spk_at {q now : Int} {xs : List Ca} : ∀ {k p : Nat}, spk q now xs k = some p → ∃ x, xs[p]? = some x ∧ p < k ∧ opB x = false ∧ qtB q x now = false
  | 0, p, h => by cases h
  | k + 1, p, h => by
    cases hx : xs[k]? with
    | none =>
      unfold spk at h
      rw [hx] at h
      obtain ⟨x, h1, h2, h3⟩ := spk_at h
      exact ⟨x, h1, by omega, h3⟩
    | some x =>
      rw [spk_succ hx] at h
      rcases sp1_cases (q := q) (now := now) (xs := xs) (o := spk q now xs k) (k := k) (x := x) with e | ⟨e, e1, e2⟩
      · rw [e] at h
        obtain ⟨x, h1, h2, h3⟩ := spk_at h
        exact ⟨x, h1, by omega, h3⟩
      · rw [e] at h
        obtain rfl := Option.some.inj h
        exact ⟨x, hx, by omega, e1, e2⟩
def spO (q now : Int) (xs : List Ca) : Option Nat := spk q now xs xs.length
set_option maxRecDepth 100000 in
set_option maxHeartbeats 8000000 in
theorem spare_any (c : Cf) (now : Int) (A : Option Addr) (xs : List Ca) (cap : Nat) (w : World) (h : Rw eA w A xs) (hcap : xs.length ≤ cap) :
    Calls Tryz.prog 110 #[cfv c, .slice A xs.length cap, .int .i64 now] w fun e w' => e = .returned (.int .i64 (fnI (spO c.i now xs))) ∧ Below w.heap.size w w' := by
  have hln := h.1
  have HB := Lib.hid (show Below w.heap.size w (w.alloc (Cfx c)) from (Below.refl _ w).alloc (Nat.le_refl _) _)
  have R := Lib.hid (h.below HB.out)
  have C0 := Lib.hid (cm_box w c)
  have HOP := Lib.hid fun x W => open_any x W
  have HQT := Lib.hid fun x W => quiet_any c x now W
  have HSN := Lib.hid fun k x (hx : xs[k]? = some x) => spk_succ (q := c.i) (now := now) hx
  have HAT := Lib.hid fun k p => @spk_at c.i now xs k p
  have HSO := Lib.hid (show spO c.i now xs = spk c.i now xs xs.length from rfl)
  clear h
  obtain ⟨L, hL⟩ : ∃ L, xs.length = L := ⟨_, rfl⟩
  have HL := Lib.hid hL
  rw [hL] at hln hcap HSO ⊢
  clear hL
  unfold cfv Cfx at *
  go_enter Tryz.func110, Tryz.ntmps110
  go_wp2_with fail
  generalize w.alloc (.cells #[.int .i64 c.a, .int .i64 c.b, .int .i64 c.c, .int .i64 c.d, .int .i64 c.e, .int .i64 c.f, .int .i64 c.g, .int .i64 c.h, .int .i64 c.i] 27) = W at *
  go_loopw [7, 12] (fun p i wr => ∃ k : Nat, i = .int .i64 k ∧ k ≤ L ∧ p = .int .i64 (fnI (spk c.i now xs k)) ∧ Hid (Below W.heap.size W wr)) (fun _ i _ => L - (intOf i).toNat)
  case atStart => exact ⟨0, rfl, by omega, rfl, Lib.hid (Below.refl _ _)⟩
  case round =>
    obtain ⟨k, rfl, hk, rfl, HW⟩ := hrel
    by_cases hkL : k < L
    · obtain ⟨x, hx⟩ := at_of_lt (xs := xs) (k := k) (by rw [HL.out]; exact hkL)
      obtain ⟨y, rfl⟩ := rw_some R.out (by rw [HL.out]; omega)
      have hat := (R.out.below HW.out).at hx
      have B1 := Lib.hid (show Below W.heap.size W (wr.alloc (Cax x)) from HW.out.alloc HW.out.size _)
      have Q1 := Lib.hid (qb_box wr x)
      have C1 := Lib.hid (C0.out.below B1.out)
      have HSX := Lib.hid (HSN.out k x hx)
      have HAK := Lib.hid fun p => HAT.out k p
      have HO := Lib.hid (HOP.out x)
      have HQ := Lib.hid (HQT.out x)
      have hsz : wr.heap.size < (wr.alloc (Cax x)).heap.size := by simp
      clear hx
      obtain ⟨o, ho⟩ : ∃ o, spk c.i now xs k = o := ⟨_, rfl⟩
      rw [ho] at HSX HAK ⊢
      clear ho
      have HS1 := Lib.hid (show sp1 c.i now xs o k x = if opB x = true then o else if qtB c.i x now = true then o else sp2 xs k x o from rfl)
      obtain ⟨b1, hb1⟩ : ∃ b, opB x = b := ⟨_, rfl⟩
      obtain ⟨b2, hb2⟩ : ∃ b, qtB c.i x now = b := ⟨_, rfl⟩
      rw [hb1] at HO HS1
      rw [hb2] at HQ HS1
      clear hb1 hb2
      unfold cav Cax at *
      go_upto_region 5 with (refine at_load37 (.tmp 15) rfl rfl (y.add (k * 4)) x rfl hat ?_)
      generalize wr.alloc (.cells #[.int .u32 x.a, .int .i64 x.r, .int .i64 x.d, .int .i64 x.g] 74) = W1 at *
      go_wp2_with (refine at_load37 (.tmp 9) rfl rfl _ x rfl Q1.out.at ?_)
      refine (HO.out _).mono ?_
      rintro e w1 ⟨rfl, hb⟩
      have B2 := Lib.hid (B1.out.trans (hb.mono B1.out.size))
      have Q2 := Lib.hid (Q1.out.below hb)
      have C2 := Lib.hid (C1.out.below hb)
      clear hb Q1 C1 B1
      cases b1
      · go_wp2_with (first | (refine at_load37g (.tmp 9) _ x rfl ?_ rfl Q2.out.at ?_; (with_reducible rfl)) | (refine at_load27g (.tmp 3) _ c rfl ?_ rfl C2.out.at ?_; (with_reducible rfl)))
        refine (HQ.out _).mono ?_
        rintro e w2 ⟨rfl, hb⟩
        have B3 := Lib.hid (B2.out.trans (hb.mono B2.out.size))
        have Q3 := Lib.hid (Q2.out.below hb)
        have R3 := Lib.hid (R.out.below B3.out)
        clear hb Q2 C2 B2
        cases b2
        · obtain ⟨q0, q1, q2, q3⟩ := Q3.out.c
          cases o with
          | none =>
            have HV := Lib.hid (show sp1 c.i now xs none k x = some k by rw [HS1.out]; rfl)
            dsimp only [fnI]
            go_upto_region 6 with fail
            refine wp_region_quiet_lit (by kernel_rfl) (by kernel_rfl) ?_
            repeat (go_big_quiet_step (fail))
            refine wpQuiet_nil ?_
            intro _ hw'
            obtain ⟨nq, hw''⟩ := hw'
            subst hw''
            have B4 := Lib.hid (bdrewN B3.out nq)
            go_wp2_with fail
            go_roundw
            case rel => exact ⟨k + 1, by go_num, by omega, by rw [HSX.out, HV.out]; rfl, B4⟩
            case measure => simp [intOf]; omega
          | some p =>
            obtain ⟨z, hz, hpk, -, -⟩ := HAK.out p rfl
            have hzd : xs.getD p zc = z := by rw [List.getD_eq_getElem?_getD, hz]; rfl
            have HS2 := Lib.hid (show sp1 c.i now xs (some p) k x = if x.d < z.d then some k else some p by rw [HS1.out, ← hzd]; rfl)
            obtain ⟨-, rz, -⟩ := rw_f R3.out hz
            have hpL : p < L := by omega
            have hpc : p < cap := by omega
            have hpn : decide ((p : Int) < 0) = false := decide_eq_false (by omega)
            clear hzd hz
            dsimp only [fnI]
            by_cases hd : x.d < z.d
            · have HV := Lib.hid (show sp1 c.i now xs (some p) k x = some k by rw [HS2.out, if_pos hd])
              go_upto_region 6 with fail
              refine wp_region_quiet_lit (by kernel_rfl) (by kernel_rfl) ?_
              repeat (go_big_quiet_step (fail))
              refine wpQuiet_nil ?_
              intro _ hw'
              obtain ⟨nq, hw''⟩ := hw'
              subst hw''
              have B4 := Lib.hid (bdrewN B3.out nq)
              go_wp2_with fail
              go_roundw
              case rel => exact ⟨k + 1, by go_num, by omega, by rw [HSX.out, HV.out]; rfl, B4⟩
              case measure => simp [intOf]; omega
            · have hd' : decide (x.d < z.d) = false := decide_eq_false hd
              have HV := Lib.hid (show sp1 c.i now xs (some p) k x = some p by rw [HS2.out, if_neg hd])
              go_upto_region 6 with fail
              refine wp_region_quiet_lit (by kernel_rfl) (by kernel_rfl) ?_
              repeat (go_big_quiet_step (fail))
              refine wpQuiet_nil ?_
              intro _ hw'
              obtain ⟨nq, hw''⟩ := hw'
              subst hw''
              have B4 := Lib.hid (bdrewN B3.out nq)
              go_wp2_with fail
              go_roundw
              case rel => exact ⟨k + 1, by go_num, by omega, by rw [HSX.out, HV.out]; rfl, B4⟩
              case measure => simp [intOf]; omega
        · have HV := Lib.hid (show sp1 c.i now xs o k x = o by rw [HS1.out]; rfl)
          go_wp2_with fail
          go_roundw
          case rel => exact ⟨k + 1, by go_num, by omega, by rw [HSX.out, HV.out], B3⟩
          case measure => simp [intOf]; omega
      · have HV := Lib.hid (show sp1 c.i now xs o k x = o by rw [HS1.out]; rfl)
        go_wp2_with fail
        go_roundw
        case rel => exact ⟨k + 1, by go_num, by omega, by rw [HSX.out, HV.out], B2⟩
        case measure => simp [intOf]; omega
    · obtain rfl : k = L := by omega
      go_wp2_with fail
      go_ret
      exact ⟨by rw [HSO.out]; rfl, HB.out.trans (HW.out.mono HB.out.size)⟩
end Go.Proofs.YtilneflfeegnfaaGreat.Cs
namespace Go.Proofs.YtilneflfeegnfaaGreat.Cs
open Go.RowKit
def rcB (x : Ca) : Bool := decide (0 ≤ x.g) && decide (x.g ≤ 5) && decide (x.r = cl x.r) && decide (x.d = cl x.d) && (if opB x = true then decide (x.d = 0) else decide (x.r ≤ x.d))
set_option maxRecDepth 100000 in
set_option maxHeartbeats 8000000 in
theorem rightCase_any (x : Ca) (w : World) : Calls Tryz.prog 90 #[cav x] w fun e w' => e = .returned (.bool (rcB x)) ∧ Below w.heap.size w w' := by
  have HO := Lib.hid (open_any x)
  obtain ⟨a, r, d, g⟩ := x
  have HB := Lib.hid (show Below w.heap.size w (w.alloc (Cax ⟨a, r, d, g⟩)) from (Below.refl _ w).alloc (Nat.le_refl _) _)
  have Q1 := Lib.hid (qb_box w ⟨a, r, d, g⟩)
  have hs : w.heap.size < (w.alloc (Cax ⟨a, r, d, g⟩)).heap.size := by simp
  have HRQ := Lib.hid (show rcB ⟨a, r, d, g⟩ = (decide (0 ≤ g) && decide (g ≤ 5) && decide (r = cl r) && decide (d = cl d) && (if opB ⟨a, r, d, g⟩ = true then decide (d = 0) else decide (r ≤ d))) from rfl)
  obtain ⟨ob, hob⟩ : ∃ b, opB ⟨a, r, d, g⟩ = b := ⟨_, rfl⟩
  rw [hob] at HO HRQ
  clear hob
  unfold cav Cax at *
  dsimp only at *
  go_enter Tryz.func90, Tryz.ntmps90
  go_wp2_with fail
  generalize w.alloc (.cells #[.int .u32 a, .int .i64 r, .int .i64 d, .int .i64 g] 74) = W at *
  obtain ⟨k0, k1, k2, k3⟩ := Q1.out.c
  dsimp only at k0 k1 k2 k3
  have r0 := cell_regrown k0
  have r1 := cell_regrown k1
  have r2 := cell_regrown k2
  have r3 := cell_regrown k3
  clear k0 k1 k2 k3
  have HC := Lib.hid fun d' os => Calls.regrown_of (d := d') (os := os) ((clamp_any r (Sort.grow (redrawn W d') os)).mono fun _ _ ⟨he, hw⟩ => ⟨he, by rw [hw]; exact Below.refl _ _⟩)
  have HD := Lib.hid fun d' os => Calls.regrown_of (d := d') (os := os) ((clamp_any d (Sort.grow (redrawn W d') os)).mono fun _ _ ⟨he, hw⟩ => ⟨he, by rw [hw]; exact Below.refl _ _⟩)
  generalize cl r = C at *
  generalize cl d = D at *
  by_cases h1 : 0 ≤ g
  · have h1' : decide (g < 0) = false := decide_eq_false (by omega)
    by_cases h2 : g ≤ 5
    · have h2' : decide (5 < g) = false := decide_eq_false (by omega)
      by_cases h3 : r = C
      · have e3 : (r != C) = false := by simpa using h3
        have H3 := Lib.hid h3
        clear h3
        by_cases h4 : d = D
        · have e4 : (d != D) = false := by simpa using h4
          have H4 := Lib.hid h4
          clear h4
          refine wp_region_quiet_below (by kernel_rfl) (by kernel_rfl) ?_
          repeat (go_big_quiet_step (first | (go_at_call 79; (with_reducible exact HC.out _ _)) | (go_at_call 79; (with_reducible exact HD.out _ _))))
          refine wpQuiet_nil ?_
          intro _ hw'
          obtain ⟨⟨dq, osq⟩, hw''⟩ := hw'
          subst hw''
          have BQ := below_regrown W dq osq
          have Q2 := Lib.hid (Q1.out.below BQ)
          have B2 := Lib.hid (HB.out.trans (BQ.mono HB.out.size))
          have hs2 : w.heap.size < (Sort.grow (redrawn W dq) osq).heap.size := Nat.lt_of_lt_of_le hs BQ.size
          clear BQ r0 r1 r2 r3 HC HD
          generalize Sort.grow (redrawn W dq) osq = W2 at *
          go_wp2_with (refine at_load37 (.tmp 1) rfl rfl _ ⟨a, r, d, g⟩ rfl Q2.out.at ?_)
          refine (HO.out _).mono ?_
          rintro e w1 ⟨rfl, hb⟩
          have B3 := Lib.hid (B2.out.trans (hb.mono B2.out.size))
          have Q3 := Lib.hid (Q2.out.below hb)
          have hs3 : w.heap.size < w1.heap.size := Nat.lt_of_lt_of_le hs2 hb.size
          clear hb
          obtain ⟨q0, q1, q2, q3⟩ := Q3.out.c
          dsimp only at q0 q1 q2 q3
          cases ob
          · have HF := Lib.hid (show rcB ⟨a, r, d, g⟩ = decide (r ≤ d) by rw [HRQ.out]; simp [h1, h2, H3.out, H4.out])
            go_wp2_with fail
            go_ret
            exact ⟨ret_bool (by rw [HF.out]), B3.out⟩
          · have HF := Lib.hid (show rcB ⟨a, r, d, g⟩ = (d == 0) by rw [HRQ.out]; simp [h1, h2, H3.out, H4.out]; rfl)
            go_wp2_with fail
            go_ret
            exact ⟨ret_bool (by rw [HF.out]), B3.out⟩
        · have e4 : (d != D) = true := by simpa using h4
          have HF := Lib.hid (show rcB ⟨a, r, d, g⟩ = false by rw [HRQ.out]; simp [h4])
          refine wp_region_quiet_below (by kernel_rfl) (by kernel_rfl) ?_
          repeat (go_big_quiet_step (first | (go_at_call 79; (with_reducible exact HC.out _ _)) | (go_at_call 79; (with_reducible exact HD.out _ _))))
          refine wpQuiet_nil ?_
          intro _ hw'
          obtain ⟨⟨dq, osq⟩, hw''⟩ := hw'
          subst hw''
          go_wp2_with fail
          go_ret
          exact ⟨by rw [HF.out]; rfl, HB.out.trans ((below_regrown _ dq osq).mono HB.out.size)⟩
      · have e3 : (r != C) = true := by simpa using h3
        have HF := Lib.hid (show rcB ⟨a, r, d, g⟩ = false by rw [HRQ.out]; simp [h3])
        refine wp_region_quiet_below (by kernel_rfl) (by kernel_rfl) ?_
        repeat (go_big_quiet_step (first | (go_at_call 79; (with_reducible exact HC.out _ _)) | (go_at_call 79; (with_reducible exact HD.out _ _))))
        refine wpQuiet_nil ?_
        intro _ hw'
        obtain ⟨⟨dq, osq⟩, hw''⟩ := hw'
        subst hw''
        go_wp2_with fail
        go_ret
        exact ⟨by rw [HF.out]; rfl, HB.out.trans ((below_regrown _ dq osq).mono HB.out.size)⟩
    · have h2' : 5 < g := by omega
      have HF := Lib.hid (show rcB ⟨a, r, d, g⟩ = false by rw [HRQ.out]; simp [h2])
      refine wp_region_quiet_below (by kernel_rfl) (by kernel_rfl) ?_
      repeat (go_big_quiet_step (first | (go_at_call 79; (with_reducible exact HC.out _ _)) | (go_at_call 79; (with_reducible exact HD.out _ _))))
      refine wpQuiet_nil ?_
      intro _ hw'
      obtain ⟨⟨dq, osq⟩, hw''⟩ := hw'
      subst hw''
      go_wp2_with fail
      go_ret
      exact ⟨by rw [HF.out]; rfl, HB.out.trans ((below_regrown _ dq osq).mono HB.out.size)⟩
  · have h1' : g < 0 := by omega
    have HF := Lib.hid (show rcB ⟨a, r, d, g⟩ = false by rw [HRQ.out]; simp [h1])
    refine wp_region_quiet_below (by kernel_rfl) (by kernel_rfl) ?_
    repeat (go_big_quiet_step (first | (go_at_call 79; (with_reducible exact HC.out _ _)) | (go_at_call 79; (with_reducible exact HD.out _ _))))
    refine wpQuiet_nil ?_
    intro _ hw'
    obtain ⟨⟨dq, osq⟩, hw''⟩ := hw'
    subst hw''
    go_wp2_with fail
    go_ret
    exact ⟨by rw [HF.out]; rfl, HB.out.trans ((below_regrown _ dq osq).mono HB.out.size)⟩
end Go.Proofs.YtilneflfeegnfaaGreat.Cs
namespace Go.Proofs.YtilneflfeegnfaaGreat.Cs
open Go.RowKit
def mv (tg now : Int) (x : Ca) : Ca := if opB ⟨x.a, x.r, x.d, tg⟩ = true then ⟨x.a, x.r, x.d, tg⟩ else ⟨x.a, x.r, cl now, tg⟩
theorem Qb.fr {w : World} {b : Nat} {x : Ca} (h : Qb w b x) (j : Nat) (hj : j < 4) : w.frozen? ⟨b, j, none⟩ = false := by
  have := (h.2 j hj).2
  rwa [Nat.zero_add] at this
theorem Qb.set2 {w : World} {b : Nat} {x : Ca} (h : Qb w b x) (m : Int) : Qb (w.setCell ⟨b, 2, none⟩ (.int .i64 m)) b ⟨x.a, x.r, m, x.g⟩ := by
  refine ⟨fun j v hv => ?_, World.there_setCells h.2 b 2 [.int .i64 m]⟩
  match j, hv with
  | 0, hv => rw [World.cell?_setCell_other _ _ _ _ (by simp)]; exact h.1 0 v hv
  | 1, hv => rw [World.cell?_setCell_other _ _ _ _ (by simp)]; exact h.1 1 v hv
  | 2, hv =>
    simp [cal] at hv
    subst hv
    exact World.cell?_setCell_same _ _ _ (h.1 2 _ rfl)
  | 3, hv => rw [World.cell?_setCell_other _ _ _ _ (by simp)]; exact h.1 3 v hv
  | j + 4, hv => simp [cal] at hv
theorem Qb.set3 {w : World} {b : Nat} {x : Ca} (h : Qb w b x) (m : Int) : Qb (w.setCell ⟨b, 3, none⟩ (.int .i64 m)) b ⟨x.a, x.r, x.d, m⟩ := by
  refine ⟨fun j v hv => ?_, World.there_setCells h.2 b 3 [.int .i64 m]⟩
  match j, hv with
  | 0, hv => rw [World.cell?_setCell_other _ _ _ _ (by simp)]; exact h.1 0 v hv
  | 1, hv => rw [World.cell?_setCell_other _ _ _ _ (by simp)]; exact h.1 1 v hv
  | 2, hv => rw [World.cell?_setCell_other _ _ _ _ (by simp)]; exact h.1 2 v hv
  | 3, hv =>
    simp [cal] at hv
    subst hv
    exact World.cell?_setCell_same _ _ _ (h.1 3 _ rfl)
  | j + 4, hv => simp [cal] at hv
theorem Qb.other {w : World} {b b' : Nat} {x : Ca} (h : Qb w b' x) (hne : b < b') (j : Nat) (v : Value) : Qb (w.setCell ⟨b, j, none⟩ v) b' x :=
  ⟨fun i u hu => by rw [World.cell?_setCell_other _ _ _ _ (by intro e; injection e with e; omega)]; exact h.1 i u hu, World.there_setCells h.2 b j [v]⟩
theorem Qb.grown {w w' : World} {b : Nat} {x : Ca} {row : Option Nat} (h : Qb w b x) (hg : w.grownBy w' row) (hne : some b ≠ row) : Qb w' b x := by
  have hb := hg.block b h.lt hne
  exact ⟨fun j v hv => by rw [World.cell?_of_block (a := ⟨b, 0 + j, none⟩) hb]; exact h.1 j v hv, fun j hj => ⟨by rw [World.cell?_of_block (a := ⟨b, 0 + j, none⟩) hb]; exact (h.2 j hj).1, by rw [World.frozen?_of_block (a := ⟨b, 0 + j, none⟩) hb]; exact (h.2 j hj).2⟩⟩
set_option maxRecDepth 100000 in
set_option maxHeartbeats 4000000 in
theorem moved_any (x : Ca) (tg now : Int) (w : World) : Calls Tryz.prog 97 #[cav x, .int .i64 tg, .int .i64 now] w fun e w' => e = .returned (cav (mv tg now x)) ∧ Below w.heap.size w w' := by
  have B0 := Lib.hid (show Below w.heap.size w ((w.alloc (Cax x)).alloc (.cells #[.int .u32 0, .int .i64 0, .int .i64 0, .int .i64 0] 74)) from ((Below.refl _ w).alloc (Nat.le_refl _) _).alloc (by simp) _)
  have Q0 := Lib.hid (show Qb ((w.alloc (Cax x)).alloc (.cells #[.int .u32 0, .int .i64 0, .int .i64 0, .int .i64 0] 74)) w.heap.size x from (qb_box w x).below ((Below.refl _ _).alloc (Nat.le_refl _) _))
  have P0 := Lib.hid (show Qb ((w.alloc (Cax x)).alloc (.cells #[.int .u32 0, .int .i64 0, .int .i64 0, .int .i64 0] 74)) (w.heap.size + 1) zc by have := qb_box (w.alloc (Cax x)) zc; rw [World.size_alloc] at this; exact this)
  have hs0 : w.heap.size + 1 < ((w.alloc (Cax x)).alloc (.cells #[.int .u32 0, .int .i64 0, .int .i64 0, .int .i64 0] 74)).heap.size := by simp
  have HO := Lib.hid (open_any ⟨x.a, x.r, x.d, tg⟩)
  have HC := Lib.hid fun W => clamp_any now W
  have HMV := Lib.hid (show mv tg now x = if opB ⟨x.a, x.r, x.d, tg⟩ = true then ⟨x.a, x.r, x.d, tg⟩ else ⟨x.a, x.r, cl now, tg⟩ from rfl)
  obtain ⟨ob, hob⟩ : ∃ b, opB ⟨x.a, x.r, x.d, tg⟩ = b := ⟨_, rfl⟩
  rw [hob] at HO HMV
  clear hob
  generalize mv tg now x = m at *
  unfold cav Cax at *
  go_enter Tryz.func97, Tryz.ntmps97
  go_upto_region 1 with fail
  generalize (w.alloc (.cells #[.int .u32 x.a, .int .i64 x.r, .int .i64 x.d, .int .i64 x.g] 74)).alloc (.cells #[.int .u32 0, .int .i64 0, .int .i64 0, .int .i64 0] 74) = W0 at *
  have f3 := Q0.out.fr 3 (by omega)
  obtain ⟨-, -, -, q3⟩ := Q0.out.c
  have B1 := Lib.hid (B0.out.setCell (p := ⟨w.heap.size, 3, none⟩) (Nat.le_refl _) (.int .i64 tg))
  have Q1 := Lib.hid (Q0.out.set3 tg)
  have P1 := Lib.hid (P0.out.other (b := w.heap.size) (by omega) 3 (.int .i64 tg))
  go_upto_region 2 with fail
  have hs1 : (W0.setCell ⟨w.heap.size, 3, none⟩ (.int .i64 tg)).heap.size = W0.heap.size := by simp
  rw [← hs1] at hs0
  clear hs1 Q0 P0 B0 f3 q3
  generalize W0.setCell ⟨w.heap.size, 3, none⟩ (.int .i64 tg) = W1 at *
  go_wp2_with (refine at_load37 (.tmp 3) rfl rfl _ ⟨x.a, x.r, x.d, tg⟩ rfl Q1.out.at ?_)
  refine (HO.out _).mono ?_
  rintro e W2 ⟨rfl, hb⟩
  have B2 := Lib.hid (B1.out.trans (hb.mono B1.out.size))
  have Q2 := Lib.hid (Q1.out.below hb)
  have P2 := Lib.hid (P1.out.below hb)
  have hs2 : w.heap.size + 1 < W2.heap.size := Nat.lt_of_lt_of_le hs0 hb.size
  clear hb Q1 P1 B1 hs0
  cases ob
  · have f2 := Q2.out.fr 2 (by omega)
    obtain ⟨-, -, q2, -⟩ := Q2.out.c
    have B3 := Lib.hid (B2.out.setCell (p := ⟨w.heap.size, 2, none⟩) (Nat.le_refl _) (.int .i64 (cl now)))
    have Q3 := Lib.hid (Q2.out.set2 (cl now))
    have P3 := Lib.hid (P2.out.other (b := w.heap.size) (by omega) 2 (.int .i64 (cl now)))
    have HM := Lib.hid (show m = ⟨x.a, x.r, cl now, tg⟩ by rw [HMV.out]; rfl)
    dsimp only at Q3
    go_wp2_with fail
    refine (HC.out _).mono ?_
    rintro e w1 ⟨rfl, rfl⟩
    go_upto_region 4 with fail
    clear Q2 P2 B2 f2 q2
    generalize W2.setCell ⟨w.heap.size, 2, none⟩ (.int .i64 (cl now)) = W3 at *
    go_wp2_with (first | (refine at_load37 (.tmp 3) rfl rfl _ ⟨x.a, x.r, cl now, tg⟩ rfl Q3.out.at ?_) | (refine at_store37 _ _ _ zc ⟨x.a, x.r, cl now, tg⟩ P3.out rfl rfl rfl rfl ?_; intro w4 P4 B4 G4))
    refine bodyPost_ret (results_cell rfl _ _ _ _ rfl (loadv37 P4.out)) rfl ?_
    exact ⟨by rw [HM.out]; rfl, B3.out.trans (B4.out _ (by omega))⟩
  · have HM := Lib.hid (show m = ⟨x.a, x.r, x.d, tg⟩ by rw [HMV.out]; rfl)
    go_wp2_with (first | (refine at_load37 (.tmp 3) rfl rfl _ ⟨x.a, x.r, x.d, tg⟩ rfl Q2.out.at ?_) | (refine at_store37 _ _ _ zc ⟨x.a, x.r, x.d, tg⟩ P2.out rfl rfl rfl rfl ?_; intro w4 P4 B4 G4))
    refine bodyPost_ret (results_cell rfl _ _ _ _ rfl (loadv37 P4.out)) rfl ?_
    exact ⟨by rw [HM.out]; rfl, B2.out.trans (B4.out _ (by omega))⟩
theorem cs_set : ∀ (ys : List Ca) (i : Nat) (q : Ca), i < ys.length → ((((eA.cs ys).set (i * 4) (.int .u32 q.a)).set (i * 4 + 1) (.int .i64 q.r)).set (i * 4 + 2) (.int .i64 q.d)).set (i * 4 + 3) (.int .i64 q.g) = eA.cs (ys.set i q)
  | [], i, q, h => by simp at h
  | y :: r, 0, q, _ => by simp [El.cs, eA, cal]
  | y :: r, i + 1, q, h => by
    have ih := cs_set r i q (by simpa using h)
    have e : eA.cs (y :: r) = cal y ++ eA.cs r := rfl
    have e2 : eA.cs ((y :: r).set (i + 1) q) = cal y ++ eA.cs (r.set i q) := rfl
    rw [e, e2, ← ih]
    have hl : (cal y).length = 4 := rfl
    have g : ∀ (l : List Value) (j : Nat) (v : Value), (cal y ++ l).set ((i + 1) * 4 + j) v = cal y ++ l.set (i * 4 + j) v := fun l j v => by
      rw [List.set_append_right _ _ (by rw [hl]; omega), hl, show (i + 1) * 4 + j - 4 = i * 4 + j by omega]
    have g0 := g (eA.cs r) 0 (.int .u32 q.a)
    simp only [Nat.add_zero] at g0
    rw [g0, g, g, g]
theorem own_setrow {w : World} {base g L c : Nat} {ys : List Ca} (h : w.ownsRow base 74 4 (.slice (some ⟨g, 0, none⟩) L c) L (eA.cs ys)) (hl : ys.length = L) {i : Nat} (hi : i < L) (q : Ca) :
    (w.setCells g (i * 4) (cal q)).ownsRow base 74 4 (.slice (some ⟨g, 0, none⟩) L c) L (eA.cs (ys.set i q)) ∧ w.grownBy (w.setCells g (i * 4) (cal q)) (some g) := by
  obtain ⟨o0, g0⟩ := h.stored (i * 4) (.int .u32 q.a)
  obtain ⟨o1, g1⟩ := o0.stored (i * 4 + 1) (.int .i64 q.r)
  obtain ⟨o2, g2⟩ := o1.stored (i * 4 + 2) (.int .i64 q.d)
  obtain ⟨o3, g3⟩ := o2.stored (i * 4 + 3) (.int .i64 q.g)
  rw [cs_set ys i q (by omega)] at o3
  have ht : ∀ k, some g = some k → some k = some g ∨ w.heap.size ≤ k := fun k e => .inl e.symm
  exact ⟨o3, grown_trans (grown_trans (grown_trans g0 g1 ht) g2 ht) g3 ht⟩
theorem own_there {w : World} {base g L c : Nat} {ys : List Ca} (h : w.ownsRow base 74 4 (.slice (some ⟨g, 0, none⟩) L c) L (eA.cs ys)) (hl : ys.length = L) {i : Nat} (hi : i < L) : w.there g (i * 4) 4 := by
  intro j hj
  have hlt : i * 4 + j < L * 4 := by omega
  refine ⟨?_, h.frozenAt _⟩
  rw [h.cellAt _ hlt, List.getElem?_eq_getElem (by rw [cs_length, hl]; exact hlt)]
  rfl
theorem at_storeRow {ops : Array Oper} {rest : List Oper} {o : Oper} {a : Act} {w : World} {Q : Exit → Act → World → Prop} (x y : Operand) (base g L c i : Nat) (ys : List Ca) (q : Ca) (H : w.ownsRow base 74 4 (.slice (some ⟨g, 0, none⟩) L c) L (eA.cs ys)) (hl : ys.length = L) (hi : i < L) (hgd : o.guard = none) (ho : o.op = .store 74 x y) (hx : a.eval x = .pointer (some ⟨g, i * 4, none⟩)) (hy : a.eval y = cav q)
    (h : ∀ w', Hid (w'.ownsRow base 74 4 (.slice (some ⟨g, 0, none⟩) L c) L (eA.cs (ys.set i q))) → Hid (w.grownBy w' (some g)) → wpList Tryz.prog ops Q rest (a.put o.dst undef) w') : wpList Tryz.prog ops Q (o :: rest) a w :=
  wpList_store_mid hgd 74 x y ho g (i * 4) (cal q).toArray hx hy (own_there H hl hi) size37 (cal_one q) (h _ (own_setrow H hl hi q).1 (own_setrow H hl hi q).2)
theorem own_at {w : World} {base g L c : Nat} {ys : List Ca} (h : w.ownsRow base 74 4 (.slice (some ⟨g, 0, none⟩) L c) L (eA.cs ys)) (hn : ys.length ≤ 140737488355328) {i : Nat} {x : Ca} (hx : ys[i]? = some x) : ∀ j v, (cal x)[j]? = some v → w.cell? ((⟨g, i * 4, none⟩ : Addr).add j) = some v := by
  intro j v hv
  have := (own_slice (E := eA) h hn).at hx j v hv
  rw [Addr.add_mid, Nat.zero_add] at this
  exact this
theorem own_g {w : World} {base L : Nat} {v : Value} {xs : List Value} (h : w.ownsRow base 74 4 v L xs) (hL : 0 < L) : ∃ g c, v = .slice (some ⟨g, 0, none⟩) L c ∧ L ≤ c := by
  rcases h.2 with ⟨-, h0⟩ | ⟨g, c, cur, e1, -, -, hle, -⟩
  · omega
  · exact ⟨g, c, e1, hle⟩
def OutPost (w : World) (ys : List Ca) (q : Int) (e : Ending) (w' : World) : Prop :=
  ∃ A cap, e = .returned (.tuple #[.slice A ys.length cap, .int .i64 q]) ∧ ys.length ≤ cap ∧ Rw eA w' A ys ∧ Below w.heap.size w w'
theorem out_no (w w' : World) (q : Int) (hb : Below w.heap.size w w') : OutPost w [] q (.returned (.tuple #[.slice none 0 0, .int .i64 q])) w' :=
  ⟨none, 0, rfl, by simp, Rw.nil _ _, hb⟩
theorem out_yes {w w' : World} {B : Nat} {v : Value} {ys : List Ca} (h : w'.ownsRow B 74 4 v ys.length (eA.cs ys)) (hn : ys.length ≤ 1000) (hb : Below w.heap.size w w') : OutPost w ys 0 (.returned (.tuple #[v, .int .i64 0])) w' := by
  obtain ⟨A, cap, rfl, hc, hm, _, hH, _⟩ := own_rw (E := eA) h (by omega)
  exact ⟨A, cap, rfl, hc, hH, hb⟩
def mvA (xs : List Ca) (i : Nat) (tg now : Int) : List Ca := xs.set i (mv tg now (xs.getD i zc))
set_option maxRecDepth 100000 in
set_option maxHeartbeats 8000000 in
theorem moveAt_any (tg now : Int) (A : Option Addr) (xs : List Ca) (cap i : Nat) (w : World) (h : Rw eA w A xs) (hc : xs.length ≤ cap) (hx9 : xs.length ≤ 900) (hi : i < xs.length) :
    Calls Tryz.prog 116 #[.slice A xs.length cap, .int .i64 (i : Int), .int .i64 tg, .int .i64 now] w (OwnPost eA 74 w (mvA xs i tg now)) := by
  have hln := h.1
  have HCL := Lib.hid (clone_any A xs cap w h (by omega) hc)
  have HM := Lib.hid fun x W => moved_any x tg now W
  obtain ⟨x, hx⟩ := at_of_lt hi
  have HX := Lib.hid hx
  have HMA := Lib.hid (show mvA xs i tg now = xs.set i (mv tg now x) by unfold mvA; rw [List.getD_eq_getElem?_getD, hx]; rfl)
  have HS := Lib.hid (show (xs.set i (mv tg now x)).length = xs.length from List.length_set)
  clear h hx
  obtain ⟨L, hL⟩ : ∃ L, xs.length = L := ⟨_, rfl⟩
  have HL := Lib.hid hL
  rw [hL] at hln hc hx9 hi HCL HS ⊢
  clear hL
  unfold cav at HM
  go_enter Tryz.func116, Tryz.ntmps116
  go_wp2_with fail
  refine HCL.out.mono ?_
  rintro e w1 ⟨v1, rfl, ho, hb⟩
  rw [HL.out] at ho
  obtain ⟨g, c, rfl, hLc⟩ := own_g ho (by omega)
  have hgB := ho.lt g rfl
  have O1 := Lib.hid ho
  have B1 := Lib.hid hb
  have hat := own_at ho (by rw [HL.out]; omega) HX.out
  clear ho hb
  go_wp2_with (refine at_load37 (.tmp 15) rfl rfl ⟨g, i * 4, none⟩ x rfl hat ?_)
  refine (HM.out _ _).mono ?_
  rintro e w2 ⟨rfl, hb⟩
  have O2 := Lib.hid (own_keep O1.out hb)
  have B2 := Lib.hid (B1.out.trans (hb.mono B1.out.size))
  clear hb hat
  go_wp2_with (refine at_storeRow _ _ w.heap.size g L c i xs (mv tg now x) O2.out HL.out hi rfl rfl rfl rfl ?_; intro w3 O3 G3)
  have B3 := Lib.hid (B2.out.grown G3.out B2.out.size (fun k' e => by injection e with e; omega))
  go_ret
  exact ⟨_, rfl, by rw [HMA.out, HS.out]; exact O3.out, B3.out⟩
def stO (ck : Int → Bool) (tg now a : Int) (xs : List Ca) : List Ca × Int := match fnd a xs with
  | none => ([], 7)
  | some i => if ck (xs.getD i zc).g = true then (mvA xs i tg now, 0) else ([], 8)
theorem mvA_len (xs : List Ca) (i : Nat) (tg now : Int) : (mvA xs i tg now).length = xs.length := by unfold mvA; exact List.length_set
end Go.Proofs.YtilneflfeegnfaaGreat.Cs
namespace Go.Proofs.YtilneflfeegnfaaGreat.Cs
open Go.RowKit
set_option maxRecDepth 100000 in
set_option maxHeartbeats 8000000 in
theorem step_any (fr tg now a : Int) (A : Option Addr) (xs : List Ca) (cap : Nat) (w : World) (h : Rw eA w A xs) (hc : xs.length ≤ cap) (hx9 : xs.length ≤ 900) :
    Calls Tryz.prog 81 #[.slice A xs.length cap, .int .u32 a, .int .i64 fr, .int .i64 tg, .int .i64 now] w (OutPost w (stO (fun g => g == fr) tg now a xs).1 (stO (fun g => g == fr) tg now a xs).2) := by
  have hln := h.1
  have HF := Lib.hid (find_any a A xs cap w h)
  have R := Lib.hid h
  have HST := Lib.hid (show stO (fun g => g == fr) tg now a xs = _ by unfold stO; rfl)
  have HMV := Lib.hid fun i W hR hi => moveAt_any tg now A xs cap i W hR hc hx9 hi
  have HAT := Lib.hid fun i (hi : fnd a xs = some i) => fnd_lt hi
  have HML := Lib.hid fun i => mvA_len xs i tg now
  cases hB : fnd a xs with
  | none =>
    rw [hB] at HF HST
    dsimp only [fnI] at HF
    obtain ⟨s, hs⟩ : ∃ s, stO (fun g => g == fr) tg now a xs = s := ⟨_, rfl⟩
    have HT := Lib.hid (show s = ([], 7) by rw [← hs, HST.out])
    rw [hs, HT.out]
    clear HST hs hB h HMV HAT HML
    generalize xs.length = L at *
    go_enter Tryz.func81, Tryz.ntmps81
    go_wp2_with fail
    refine HF.out.mono ?_
    rintro e w1 ⟨rfl, hb⟩
    have B1 := Lib.hid hb
    clear hb
    go_wp2_with fail
    go_ret2
    exact out_no w w1 7 B1.out
  | some i =>
    have hi := HAT.out i hB
    have HMI := Lib.hid fun W hR => HMV.out i W hR hi
    have HLI := Lib.hid (HML.out i)
    rw [hB] at HF HST
    dsimp only [fnI] at HF
    obtain ⟨x, hx⟩ := at_of_lt hi
    have hxd : xs.getD i zc = x := by rw [List.getD_eq_getElem?_getD, hx]; rfl
    obtain ⟨y, rfl⟩ := rw_some R.out (by omega)
    have HX := Lib.hid hx
    dsimp only at HST
    rw [hxd] at HST
    obtain ⟨s, hs⟩ : ∃ s, stO (fun g => g == fr) tg now a xs = s := ⟨_, rfl⟩
    rw [hs] at HST ⊢
    clear hs hB h HMV HAT HML hxd hx
    generalize mvA xs i tg now = ys at *
    obtain ⟨L, hL⟩ : ∃ L, xs.length = L := ⟨_, rfl⟩
    rw [hL] at hln hc hx9 hi HF HMI HLI ⊢
    clear hL
    cases hg : (x.g == fr)
    · have HT := Lib.hid (show s = ([], 8) by rw [HST.out]; exact if_neg (by rw [hg]; simp))
      have hg' : (x.g != fr) = true := by rw [bne, hg]; rfl
      rw [HT.out]
      clear HST hg
      go_enter Tryz.func81, Tryz.ntmps81
      go_wp2_with fail
      refine HF.out.mono ?_
      rintro e w1 ⟨rfl, hb⟩
      have B1 := Lib.hid hb
      obtain ⟨-, -, r3⟩ := rw_f (R.out.below hb) HX.out
      clear hb
      go_wp2_with fail
      go_ret2
      exact out_no w w1 8 B1.out
    · have HT := Lib.hid (show s = (ys, 0) by rw [HST.out]; exact if_pos hg)
      have hg' : (x.g != fr) = false := by rw [bne, hg]; rfl
      rw [HT.out]
      clear HST hg
      go_enter Tryz.func81, Tryz.ntmps81
      go_wp2_with fail
      refine HF.out.mono ?_
      rintro e w1 ⟨rfl, hb⟩
      have B1 := Lib.hid hb
      have R1 := Lib.hid (R.out.below hb)
      obtain ⟨-, -, r3⟩ := rw_f (R.out.below hb) HX.out
      clear hb
      go_wp2_with fail
      refine (HMI.out _ R1.out).mono ?_
      rintro e w2 ⟨v, rfl, ho, hb⟩
      have B2 := Lib.hid (B1.out.trans (hb.mono B1.out.size))
      have O2 := Lib.hid ho
      clear hb ho
      go_wp2_with fail
      go_ret2
      exact out_yes O2.out (by rw [HLI.out]; omega) B2.out
set_option maxRecDepth 100000 in
set_option maxHeartbeats 4000000 in
theorem approve_any (now a : Int) (A : Option Addr) (xs : List Ca) (cap : Nat) (w : World) (h : Rw eA w A xs) (hc : xs.length ≤ cap) (hx9 : xs.length ≤ 900) :
    Calls Tryz.prog 35 #[.slice A xs.length cap, .int .u32 a, .int .i64 now] w (OutPost w (stO (fun g => g == 0) 1 now a xs).1 (stO (fun g => g == 0) 1 now a xs).2) := by
  have HS := Lib.hid (step_any 0 1 now a A xs cap w h hc hx9)
  generalize stO (fun g => g == 0) 1 now a xs = s at *
  obtain ⟨ys, q⟩ := s
  clear h
  generalize xs.length = L at *
  go_enter Tryz.func35, Tryz.ntmps35
  go_wp2_with fail
  refine HS.out.mono ?_
  rintro e w1 ⟨A1, c1, rfl, hc1, hR, hb⟩
  have HR := Lib.hid hR
  have HB := Lib.hid hb
  have HC := Lib.hid hc1
  clear hR hb hc1
  dsimp only at *
  go_wp2_with fail
  go_ret2
  exact ⟨A1, c1, rfl, HC.out, HR.out, HB.out⟩
set_option maxRecDepth 100000 in
set_option maxHeartbeats 4000000 in
theorem reject_any (now a : Int) (A : Option Addr) (xs : List Ca) (cap : Nat) (w : World) (h : Rw eA w A xs) (hc : xs.length ≤ cap) (hx9 : xs.length ≤ 900) :
    Calls Tryz.prog 36 #[.slice A xs.length cap, .int .u32 a, .int .i64 now] w (OutPost w (stO (fun g => g == 0) 2 now a xs).1 (stO (fun g => g == 0) 2 now a xs).2) := by
  have HS := Lib.hid (step_any 0 2 now a A xs cap w h hc hx9)
  generalize stO (fun g => g == 0) 2 now a xs = s at *
  obtain ⟨ys, q⟩ := s
  clear h
  generalize xs.length = L at *
  go_enter Tryz.func36, Tryz.ntmps36
  go_wp2_with fail
  refine HS.out.mono ?_
  rintro e w1 ⟨A1, c1, rfl, hc1, hR, hb⟩
  have HR := Lib.hid hR
  have HB := Lib.hid hb
  have HC := Lib.hid hc1
  clear hR hb hc1
  dsimp only at *
  go_wp2_with fail
  go_ret2
  exact ⟨A1, c1, rfl, HC.out, HR.out, HB.out⟩
set_option maxRecDepth 100000 in
set_option maxHeartbeats 4000000 in
theorem done_any (now a : Int) (A : Option Addr) (xs : List Ca) (cap : Nat) (w : World) (h : Rw eA w A xs) (hc : xs.length ≤ cap) (hx9 : xs.length ≤ 900) :
    Calls Tryz.prog 67 #[.slice A xs.length cap, .int .u32 a, .int .i64 now] w (OutPost w (stO (fun g => g == 1) 5 now a xs).1 (stO (fun g => g == 1) 5 now a xs).2) := by
  have HS := Lib.hid (step_any 1 5 now a A xs cap w h hc hx9)
  generalize stO (fun g => g == 1) 5 now a xs = s at *
  obtain ⟨ys, q⟩ := s
  clear h
  generalize xs.length = L at *
  go_enter Tryz.func67, Tryz.ntmps67
  go_wp2_with fail
  refine HS.out.mono ?_
  rintro e w1 ⟨A1, c1, rfl, hc1, hR, hb⟩
  have HR := Lib.hid hR
  have HB := Lib.hid hb
  have HC := Lib.hid hc1
  clear hR hb hc1
  dsimp only at *
  go_wp2_with fail
  go_ret2
  exact ⟨A1, c1, rfl, HC.out, HR.out, HB.out⟩
set_option maxRecDepth 100000 in
set_option maxHeartbeats 8000000 in
theorem cancel_any (now a : Int) (A : Option Addr) (xs : List Ca) (cap : Nat) (w : World) (h : Rw eA w A xs) (hc : xs.length ≤ cap) (hx9 : xs.length ≤ 900) :
    Calls Tryz.prog 74 #[.slice A xs.length cap, .int .u32 a, .int .i64 now] w (OutPost w (stO (fun _ => true) 4 now a xs).1 (stO (fun _ => true) 4 now a xs).2) := by
  have hln := h.1
  have HF := Lib.hid (find_any a A xs cap w h)
  have R := Lib.hid h
  have HST := Lib.hid (show stO (fun _ => true) 4 now a xs = _ by unfold stO; rfl)
  have HMV := Lib.hid fun i W hR hi => moveAt_any 4 now A xs cap i W hR hc hx9 hi
  have HAT := Lib.hid fun i (hi : fnd a xs = some i) => fnd_lt hi
  have HML := Lib.hid fun i => mvA_len xs i 4 now
  cases hB : fnd a xs with
  | none =>
    rw [hB] at HF HST
    dsimp only [fnI] at HF
    obtain ⟨s, hs⟩ : ∃ s, stO (fun _ => true) 4 now a xs = s := ⟨_, rfl⟩
    have HT := Lib.hid (show s = ([], 7) by rw [← hs, HST.out])
    rw [hs, HT.out]
    clear HST hs hB h HMV HAT HML
    generalize xs.length = L at *
    go_enter Tryz.func74, Tryz.ntmps74
    go_wp2_with fail
    refine HF.out.mono ?_
    rintro e w1 ⟨rfl, hb⟩
    have B1 := Lib.hid hb
    clear hb
    go_wp2_with fail
    go_ret2
    exact out_no w w1 7 B1.out
  | some i =>
    have hi := HAT.out i hB
    have HMI := Lib.hid fun W hR => HMV.out i W hR hi
    have HLI := Lib.hid (HML.out i)
    rw [hB] at HF HST
    dsimp only [fnI] at HF
    obtain ⟨s, hs⟩ : ∃ s, stO (fun _ => true) 4 now a xs = s := ⟨_, rfl⟩
    rw [hs] at HST ⊢
    clear hs hB h HMV HAT HML
    have HT := Lib.hid (show s = (mvA xs i 4 now, 0) by rw [HST.out]; rfl)
    rw [HT.out]
    clear HST
    generalize mvA xs i 4 now = ys at *
    generalize xs.length = L at *
    go_enter Tryz.func74, Tryz.ntmps74
    go_wp2_with fail
    refine HF.out.mono ?_
    rintro e w1 ⟨rfl, hb⟩
    have B1 := Lib.hid hb
    have R1 := Lib.hid (R.out.below hb)
    clear hb
    go_wp2_with fail
    refine (HMI.out _ R1.out).mono ?_
    rintro e w2 ⟨v, rfl, ho, hb⟩
    have B2 := Lib.hid (B1.out.trans (hb.mono B1.out.size))
    have O2 := Lib.hid ho
    clear hb ho
    go_wp2_with fail
    go_ret2
    exact out_yes O2.out (by rw [HLI.out]; omega) B2.out
end Go.Proofs.YtilneflfeegnfaaGreat.Cs
namespace Go.Proofs.YtilneflfeegnfaaGreat.Cs
open Go.RowKit
def tk (h now : Int) (x : Ca) : Ca := if x.g = 0 ∧ h ≤ si now x.r then mv 3 now x else x
def tkO (h now : Int) (xs : List Ca) : List Ca := xs.map (tk h now)
def tkl (h now : Int) (xs : List Ca) (k : Nat) : List Ca := (xs.take k).map (tk h now) ++ xs.drop k
theorem tkl_zero (h now : Int) (xs : List Ca) : tkl h now xs 0 = xs := by simp [tkl]
theorem tkl_len (h now : Int) (xs : List Ca) (k : Nat) : (tkl h now xs k).length = xs.length := by simp [tkl]; omega
theorem tkl_end (h now : Int) (xs : List Ca) : tkl h now xs xs.length = tkO h now xs := by simp [tkl, tkO]
theorem tkl_at {h now : Int} {xs : List Ca} {k : Nat} {x : Ca} (hx : xs[k]? = some x) : (tkl h now xs k)[k]? = some x := by
  have hk := (List.getElem?_eq_some_iff.1 hx).1
  unfold tkl
  rw [List.getElem?_append_right (by rw [List.length_map, List.length_take]; omega), List.length_map, List.length_take, Nat.min_eq_left (by omega), Nat.sub_self, List.getElem?_drop]
  exact hx
theorem tkl_set {h now : Int} {xs : List Ca} {k : Nat} {x : Ca} (hx : xs[k]? = some x) : (tkl h now xs k).set k (tk h now x) = tkl h now xs (k + 1) := by
  have hk := (List.getElem?_eq_some_iff.1 hx).1
  have hx' := (List.getElem?_eq_some_iff.1 hx).2
  unfold tkl
  have hd : xs.drop k = x :: xs.drop (k + 1) := by rw [← hx']; exact List.drop_eq_getElem_cons hk
  rw [hd, List.set_append_right _ _ (by rw [List.length_map, List.length_take]; omega), List.length_map, List.length_take, Nat.min_eq_left (by omega), Nat.sub_self, List.set_cons_zero, List.take_add_one, hx, List.map_append]
  simp
theorem tkl_same {h now : Int} {xs : List Ca} {k : Nat} {x : Ca} (hx : xs[k]? = some x) (he : tk h now x = x) : tkl h now xs (k + 1) = tkl h now xs k := by
  rw [← tkl_set hx, he]
  refine List.ext_getElem? fun j => ?_
  rw [List.getElem?_set]
  split
  · rename_i e
    subst e
    rw [if_pos (by rw [tkl_len]; exact (List.getElem?_eq_some_iff.1 hx).1), tkl_at hx]
  · rfl
set_option maxRecDepth 100000 in
set_option maxHeartbeats 8000000 in
theorem tick_any (c : Cf) (now : Int) (A : Option Addr) (xs : List Ca) (cap : Nat) (w : World) (h : Rw eA w A xs) (hc : xs.length ≤ cap) (hx9 : xs.length ≤ 900) :
    Calls Tryz.prog 57 #[cfv c, .slice A xs.length cap, .int .i64 now] w (OwnPost eA 74 w (tkO c.h now xs)) := by
  have hln := h.1
  have HB0 := Lib.hid (show Below w.heap.size w (w.alloc (Cfx c)) from (Below.refl _ w).alloc (Nat.le_refl _) _)
  have C0 := Lib.hid (cm_box w c)
  have hs0 : w.heap.size < (w.alloc (Cfx c)).heap.size := by simp
  have HCL := Lib.hid (clone_any A xs cap (w.alloc (Cfx c)) (h.below HB0.out) (by omega) hc)
  have HSI := Lib.hid fun t W => since_any now t W
  have HMV := Lib.hid fun x W => moved_any x 3 now W
  have HK1 := Lib.hid fun k x => @tkl_at c.h now xs k x
  have HK2 := Lib.hid fun k x => @tkl_set c.h now xs k x
  have HK3 := Lib.hid fun k x => @tkl_same c.h now xs k x
  have HK4 := Lib.hid (tkl_len c.h now xs)
  have HKE := Lib.hid (tkl_end c.h now xs)
  have HK0 := Lib.hid (tkl_zero c.h now xs)
  have HTK := Lib.hid (show ∀ x, tk c.h now x = if x.g = 0 ∧ c.h ≤ si now x.r then mv 3 now x else x from fun x => rfl)
  have HOL := Lib.hid (show (tkO c.h now xs).length = xs.length by simp [tkO])
  have HAT := Lib.hid fun k (hk : k < xs.length) => at_of_lt hk
  clear h
  obtain ⟨L, hL⟩ : ∃ L, xs.length = L := ⟨_, rfl⟩
  have HL := Lib.hid hL
  rw [hL] at hln hc hx9 HCL HK4 HKE HOL HAT ⊢
  clear hL
  unfold cfv Cfx at *
  unfold cav at HMV
  go_enter Tryz.func57, Tryz.ntmps57
  go_upto_region 1 with fail
  generalize w.alloc (.cells #[.int .i64 c.a, .int .i64 c.b, .int .i64 c.c, .int .i64 c.d, .int .i64 c.e, .int .i64 c.f, .int .i64 c.g, .int .i64 c.h, .int .i64 c.i] 27) = W0 at *
  go_wp2_with fail
  refine HCL.out.mono ?_
  rintro e w1 ⟨v1, rfl, ho, hb⟩
  rw [HL.out] at ho
  obtain ⟨A1, c1, rfl, hc1, -, -, -, -⟩ := own_rw (E := eA) (n := L) ho (by rw [HL.out]; exact hln)
  rw [HL.out] at hc1 ho ⊢
  have O1 := Lib.hid ho
  have B1 := Lib.hid hb
  clear hb ho HCL
  go_wp2_with fail
  go_loopw [13] (fun i wr => ∃ k : Nat, i = .int .i64 k ∧ k ≤ L ∧ Hid (wr.ownsRow W0.heap.size 74 4 (.slice A1 L c1) L (eA.cs (tkl c.h now xs k)) ∧ Below W0.heap.size W0 wr)) (fun i _ => L - (intOf i).toNat)
  case atStart => exact ⟨0, rfl, by omega, Lib.hid ⟨by rw [HK0.out]; exact O1.out, B1.out⟩⟩
  case round =>
    obtain ⟨k, rfl, hk, HR⟩ := hrel
    by_cases hkL : k < L
    · obtain ⟨x, hx⟩ := HAT.out k hkL
      obtain ⟨g, c', e, hLc⟩ := own_g HR.out.1 (by omega)
      injection e with e1 e2 e3
      subst e1 e3
      have HSET := Lib.hid (HK2.out k x hx)
      have HSAM := Lib.hid (HK3.out k x hx)
      have HTX := Lib.hid (HTK.out x)
      have hat := own_at HR.out.1 (by rw [HK4.out]; exact hln) (HK1.out k x hx)
      have hgB := HR.out.1.lt g rfl
      have B2 := Lib.hid (show Below W0.heap.size W0 (wr.alloc (Cax x)) from HR.out.2.alloc HR.out.2.size _)
      have O2 := Lib.hid (own_keep HR.out.1 ((Below.refl _ wr).alloc (Nat.le_refl _) (Cax x)))
      have Q2 := Lib.hid (qb_box wr x)
      have C2 := Lib.hid (C0.out.keep B2.out hs0 B2.out.size)
      have hsz : wr.heap.size < (wr.alloc (Cax x)).heap.size := by simp
      have HMX := Lib.hid (HMV.out x)
      obtain ⟨m, hm⟩ : ∃ m, mv 3 now x = m := ⟨_, rfl⟩
      rw [hm] at HTX HMX
      clear hx hm
      unfold Cax at *
      go_upto_region 5 with (refine at_load37 (.tmp 16) rfl rfl ⟨g, k * 4, none⟩ x rfl hat ?_)
      clear hat
      generalize wr.alloc (.cells #[.int .u32 x.a, .int .i64 x.r, .int .i64 x.d, .int .i64 x.g] 74) = W at *
      obtain ⟨q0, q1, q2, q3⟩ := Q2.out.c
      have c7 := C2.out.c7
      cases hg : (x.g == 0)
      · have HV := Lib.hid (show tk c.h now x = x by rw [HTX.out, if_neg (fun h => by rw [h.1] at hg; simp at hg)])
        have HN := Lib.hid (HSAM.out HV.out)
        refine wp_region_quiet_lit (by kernel_rfl) (by kernel_rfl) ?_
        repeat (go_big_quiet_step (fail))
        refine wpQuiet_nil ?_
        intro _ hw'
        obtain ⟨nq, hw''⟩ := hw'
        subst hw''
        have B4 := Lib.hid (bdrewN B2.out nq)
        have O4 := Lib.hid (own_keep O2.out (bdrewN (Below.refl _ W) nq))
        go_wp2_with fail
        go_roundw
        case rel => exact ⟨k + 1, by go_num, by omega, Lib.hid ⟨by rw [HN.out]; exact O4.out, B4.out⟩⟩
        case measure => simp [intOf]; omega
      · have hg0 : x.g = 0 := by simpa using hg
        have HG0 := Lib.hid hg0
        clear hg0
        have r1 := cell_regrown q1
        have r3 := cell_regrown q3
        have r7 := cell_regrown c7
        have HSR := Lib.hid fun d' os => Calls.regrown_of (d := d') (os := os) ((HSI.out x.r (Sort.grow (redrawn W d') os)).mono fun _ _ ⟨he, hw⟩ => ⟨he, by rw [hw]; exact Below.refl _ _⟩)
        obtain ⟨Z, hZ⟩ : ∃ Z, si now x.r = Z := ⟨_, rfl⟩
        rw [hZ] at HSR HTX
        clear hZ
        by_cases hl : c.h ≤ Z
        · have HV := Lib.hid (show tk c.h now x = m by rw [HTX.out, if_pos ⟨HG0.out, hl⟩])
          rw [HV.out] at HSET
          refine wp_region_quiet_below (by kernel_rfl) (by kernel_rfl) ?_
          repeat (go_big_quiet_step ((go_at_call 96; exact HSR.out _ _)))
          refine wpQuiet_nil ?_
          intro _ hw'
          obtain ⟨⟨dq, osq⟩, hw''⟩ := hw'
          subst hw''
          have BQ := below_regrown W dq osq
          have B3 := Lib.hid (B2.out.trans (BQ.mono B2.out.size))
          have O3 := Lib.hid (own_keep O2.out BQ)
          have Q3 := Lib.hid (Q2.out.below BQ)
          clear q0 q1 q2 q3 c7 r1 r3 r7 HSR BQ B2 O2 Q2 C2
          generalize Sort.grow (redrawn W dq) osq = W3 at *
          go_wp2_with (refine at_load37 (.tmp 8) rfl rfl _ x rfl Q3.out.at ?_)
          refine (HMX.out _).mono ?_
          rintro e w4 ⟨rfl, hb⟩
          have B4 := Lib.hid (B3.out.trans (hb.mono B3.out.size))
          have O4 := Lib.hid (own_keep O3.out hb)
          clear hb
          have HLK := Lib.hid (HK4.out k)
          go_wp2_with (refine at_storeRow _ _ W0.heap.size g L c1 k (tkl c.h now xs k) m O4.out HLK.out hkL rfl rfl rfl rfl ?_; intro w5 O5 G5)
          have B5 := Lib.hid (B4.out.grown G5.out B4.out.size (fun k' e => by injection e with e; omega))
          go_roundw
          case rel => exact ⟨k + 1, by go_num, by omega, Lib.hid ⟨by rw [← HSET.out]; exact O5.out, B5.out⟩⟩
          case measure => simp [intOf]; omega
        · have hl' : decide (c.h ≤ Z) = false := decide_eq_false hl
          have HV := Lib.hid (show tk c.h now x = x by rw [HTX.out, if_neg (fun h => hl h.2)])
          have HN := Lib.hid (HSAM.out HV.out)
          refine wp_region_quiet_below (by kernel_rfl) (by kernel_rfl) ?_
          repeat (go_big_quiet_step ((go_at_call 96; exact HSR.out _ _)))
          refine wpQuiet_nil ?_
          intro _ hw'
          obtain ⟨⟨dq, osq⟩, hw''⟩ := hw'
          subst hw''
          have BQ := below_regrown W dq osq
          have B3 := Lib.hid (B2.out.trans (BQ.mono B2.out.size))
          have O3 := Lib.hid (own_keep O2.out BQ)
          have Q3 := Lib.hid (Q2.out.below BQ)
          clear q0 q1 q2 q3 c7 r1 r3 r7 HSR BQ B2 O2 Q2 C2
          generalize Sort.grow (redrawn W dq) osq = W3 at *
          go_wp2_with fail
          go_roundw
          case rel => exact ⟨k + 1, by go_num, by omega, Lib.hid ⟨by rw [HN.out]; exact O3.out, B3.out⟩⟩
          case measure => simp [intOf]; omega
    · obtain rfl : k = L := by omega
      have HF := Lib.hid HR.out.1
      have HFB := Lib.hid (HB0.out.trans (HR.out.2.mono HB0.out.size))
      go_wp2_with fail
      go_ret
      exact ⟨_, rfl, by rw [HOL.out, ← HKE.out]; exact own_base HF.out HB0.out.size, HFB.out⟩
end Go.Proofs.YtilneflfeegnfaaGreat.Cs
namespace Go.Proofs.YtilneflfeegnfaaGreat.Cs
open Go.RowKit
def pF (ps : List (Pt Ca)) : Value → World → Prop := fun v W => ∃ b, v = .slice (some ⟨b, 0, none⟩) ps.length ps.length ∧ Pm eA W b ps
theorem Pm.below {w w' : World} {b : Nat} {ps : List (Pt Ca)} (h : Pm eA w b ps) (hb : Below w.heap.size w w') : Pm eA w' b ps :=
  ⟨Nat.lt_of_lt_of_le h.1 hb.size, fun k p hp => ⟨by rw [hb.cell (p := ⟨b, k, none⟩) h.1]; exact (h.2 k p hp).1, (h.2 k p hp).2.below hb⟩⟩
theorem stable_pF (ps : List (Pt Ca)) : Stable (pF ps) := fun _ _ _ ⟨b, hv, hP⟩ hb => ⟨b, hv, Pm.below hP hb⟩
def oF (B : Nat) (ys : List Ca) : Value → World → Prop := fun v W => W.ownsRow B 74 4 v ys.length (eA.cs ys)
theorem stable_oF (B : Nat) (ys : List Ca) : Stable (oF B ys) := fun _ _ _ h hb => own_keep h hb
def hF (h : Ca) : Value → World → Prop := fun v W => ∃ b, v = .slice (some ⟨b, 0, none⟩) 1 1 ∧ Rw eA W (some ⟨b, 0, none⟩) [h]
theorem stable_hF (h : Ca) : Stable (hF h) := fun _ _ _ ⟨b, hv, hP⟩ hb => ⟨b, hv, hP.below hb⟩
theorem pm_two (W : World) (p q : Pt Ca) (t : TypeId) (hp : Rw eA W p.A p.xs) (hq : Rw eA W q.A q.xs) : Pm eA (W.alloc (.cells #[.slice p.A p.xs.length p.c, .slice q.A q.xs.length q.c] t)) W.heap.size [p, q] := by
  refine ⟨by simp, fun k r hr => ?_⟩
  match k, hr with
  | 0, hr => simp at hr; subst hr; exact ⟨by simp, hp.below ((Below.refl _ _).alloc (Nat.le_refl _) _)⟩
  | 1, hr => simp at hr; subst hr; exact ⟨by simp, hq.below ((Below.refl _ _).alloc (Nat.le_refl _) _)⟩
  | k + 2, hr => simp at hr
theorem pm_three (W : World) (p q s : Pt Ca) (t : TypeId) (hp : Rw eA W p.A p.xs) (hq : Rw eA W q.A q.xs) (hs : Rw eA W s.A s.xs) : Pm eA (W.alloc (.cells #[.slice p.A p.xs.length p.c, .slice q.A q.xs.length q.c, .slice s.A s.xs.length s.c] t)) W.heap.size [p, q, s] := by
  refine ⟨by simp, fun k r hr => ?_⟩
  match k, hr with
  | 0, hr => simp at hr; subst hr; exact ⟨by simp, hp.below ((Below.refl _ _).alloc (Nat.le_refl _) _)⟩
  | 1, hr => simp at hr; subst hr; exact ⟨by simp, hq.below ((Below.refl _ _).alloc (Nat.le_refl _) _)⟩
  | 2, hr => simp at hr; subst hr; exact ⟨by simp, hs.below ((Below.refl _ _).alloc (Nat.le_refl _) _)⟩
  | k + 3, hr => simp at hr
theorem hs_box (W : World) (x : Ca) : Rw eA (W.alloc (Cax x)) (some ⟨W.heap.size, 0, none⟩) [x] := by
  refine ⟨by simp, fun q z hq => ?_⟩
  match q, hq with
  | 0, hq =>
    simp at hq
    subst hq
    refine ⟨_, rfl, fun j v hv => ?_⟩
    rw [Addr.add_mid]
    have hv' : (cal x)[j]? = some v := hv
    have := (qb_box W x).1 j v hv'
    simpa [eA] using this
  | q + 1, hq => simp at hq
def nw (a now : Int) : Ca := ⟨a, cl now, 0, 0⟩
def del (xs : List Ca) (k : Nat) : List Ca := xs.take k ++ xs.drop (k + 1)
def rs2 (xs : List Ca) (x : Ca) : Option Nat → List Ca × Int
  | none => ([], 4)
  | some i => (del xs i ++ [x], 0)
def rs1 (q now a : Int) (xs : List Ca) : Option Nat → List Ca × Int
  | some _ => ([], 6)
  | none => if aqB q a now xs = true then ([], 8) else if xs.length < 16 then (xs ++ [nw a now], 0) else rs2 xs (nw a now) (spO q now xs)
def rsO (q now a : Int) (xs : List Ca) : List Ca × Int := rs1 q now a xs (fnd a xs)
set_option maxRecDepth 100000 in
set_option maxHeartbeats 8000000 in
theorem raise_any (c : Cf) (now a : Int) (A : Option Addr) (xs : List Ca) (cap : Nat) (w : World) (h : Rw eA w A xs) (hc : xs.length ≤ cap) (hx9 : xs.length ≤ 900) :
    Calls Tryz.prog 68 #[cfv c, .slice A xs.length cap, .int .u32 a, .int .i64 now] w (OutPost w (rsO c.i now a xs).1 (rsO c.i now a xs).2) := by
  have hln := h.1
  have HB0 := Lib.hid (show Below w.heap.size w (w.alloc (Cfx c)) from (Below.refl _ w).alloc (Nat.le_refl _) _)
  have C0 := Lib.hid (cm_box w c)
  have R0 := Lib.hid (h.below HB0.out)
  have HFI := Lib.hid (find_any a A xs cap (w.alloc (Cfx c)) R0.out)
  have HAQ := Lib.hid fun W hR => anyQuiet_any c a now A xs cap W hR
  have HSP := Lib.hid fun W hR => spare_any c now A xs cap W hR hc
  have HC := Lib.hid fun W => clamp_any now W
  have HSA := Lib.hid fun p (hp : spO c.i now xs = some p) => spk_at hp
  have HRS := Lib.hid (show rsO c.i now a xs = rs1 c.i now a xs (fnd a xs) from rfl)
  have HR1 := Lib.hid (show rs1 c.i now a xs none = if aqB c.i a now xs = true then ([], 8) else if xs.length < 16 then (xs ++ [nw a now], 0) else rs2 xs (nw a now) (spO c.i now xs) from rfl)
  unfold cfv Cfx at *
  cases hB : fnd a xs with
  | some i =>
    have HT := Lib.hid (show rsO c.i now a xs = ([], 6) by rw [HRS.out, hB]; rfl)
    rw [HT.out]
    rw [hB] at HFI
    dsimp only [fnI] at HFI
    have hi0 : (0 : Int) ≤ i := by omega
    clear hB h HRS HR1 HSA HSP HAQ HT R0
    generalize xs.length = L at *
    go_enter Tryz.func68, Tryz.ntmps68
    go_wp2_with fail
    generalize w.alloc (.cells #[.int .i64 c.a, .int .i64 c.b, .int .i64 c.c, .int .i64 c.d, .int .i64 c.e, .int .i64 c.f, .int .i64 c.g, .int .i64 c.h, .int .i64 c.i] 27) = W0 at *
    refine HFI.out.mono ?_
    rintro e w1 ⟨rfl, hb⟩
    have B1 := Lib.hid (HB0.out.trans (hb.mono HB0.out.size))
    clear hb
    go_wp2_with fail
    go_ret2
    exact out_no w w1 6 B1.out
  | none =>
    rw [hB] at HFI HRS
    rw [HR1.out] at HRS
    dsimp only [fnI] at HFI
    clear hB HR1
    obtain ⟨aq, haq⟩ : ∃ b, aqB c.i a now xs = b := ⟨_, rfl⟩
    rw [haq] at HAQ HRS
    clear haq
    generalize rsO c.i now a xs = s at *
    cases aq
    · rw [if_neg (by simp)] at HRS
      by_cases h16 : xs.length < 16
      · have h16' : (xs.length : Int) < 16 := by omega
        rw [if_pos h16] at HRS
        obtain ⟨ys, hys⟩ : ∃ ys, xs ++ [nw a now] = ys := ⟨_, rfl⟩
        have HT := Lib.hid (show s = (ys, 0) by rw [HRS.out, hys])
        rw [HT.out]
        have hyl : ys.length ≤ 1000 := by rw [← hys, List.length_append]; simp; omega
        have HYL := Lib.hid hyl
        have HCC := Lib.hid (show ∀ W g, Rw eA W A xs → Rw eA W (some ⟨g, 0, none⟩) [nw a now] → Calls Tryz.prog 109 #[.slice (some ⟨W.heap.size, 0, none⟩) 2 2] (W.alloc (.cells #[.slice A xs.length cap, .slice (some ⟨g, 0, none⟩) 1 1] 33)) (OwnPost eA 74 (W.alloc (.cells #[.slice A xs.length cap, .slice (some ⟨g, 0, none⟩) 1 1] 33)) ys) from fun W g hA hX => by
          have hp := pm_two W ⟨A, xs, cap⟩ ⟨some ⟨g, 0, none⟩, [nw a now], 1⟩ 33 hA hX
          have := concat_any [⟨A, xs, cap⟩, ⟨some ⟨g, 0, none⟩, [nw a now], 1⟩] W.heap.size 2 _ hp (by simp [cat]; omega) (by simp)
          rw [show cat [(⟨A, xs, cap⟩ : Pt Ca), ⟨some ⟨g, 0, none⟩, [nw a now], 1⟩] [(⟨A, xs, cap⟩ : Pt Ca), ⟨some ⟨g, 0, none⟩, [nw a now], 1⟩].length = ys by rw [← hys]; simp [cat]] at this
          exact this)
        clear h HT HRS hyl hys h16 HSA HSP
        generalize xs.length = L at *
        go_enter Tryz.func68, Tryz.ntmps68
        go_wp2_with fail
        generalize w.alloc (.cells #[.int .i64 c.a, .int .i64 c.b, .int .i64 c.c, .int .i64 c.d, .int .i64 c.e, .int .i64 c.f, .int .i64 c.g, .int .i64 c.h, .int .i64 c.i] 27) = W0 at *
        refine HFI.out.mono ?_
        rintro e w1 ⟨rfl, hb⟩
        have B1 := Lib.hid (HB0.out.trans (hb.mono HB0.out.size))
        have R1 := Lib.hid (R0.out.below hb)
        have C1 := Lib.hid (C0.out.below hb)
        clear hb R0 C0
        go_wp2_with (refine at_load27 (.tmp 4) rfl rfl _ c rfl C1.out.at ?_)
        refine (HAQ.out _ R1.out).mono ?_
        rintro e w2 ⟨rfl, hb⟩
        have B2 := Lib.hid (B1.out.trans (hb.mono B1.out.size))
        have R2 := Lib.hid (R1.out.below hb)
        clear hb R1 C1
        have B3 := Lib.hid (show Below w.heap.size w (w2.alloc (.cells #[.int .u32 a, .int .i64 (cl now), .int .i64 0, .int .i64 0] 74)) from B2.out.alloc B2.out.size _)
        have R3 := Lib.hid (show Rw eA (w2.alloc (.cells #[.int .u32 a, .int .i64 (cl now), .int .i64 0, .int .i64 0] 74)) A xs from R2.out.below ((Below.refl _ w2).alloc (Nat.le_refl _) _))
        have RX3 := Lib.hid (show Rw eA (w2.alloc (.cells #[.int .u32 a, .int .i64 (cl now), .int .i64 0, .int .i64 0] 74)) (some ⟨w2.heap.size, 0, none⟩) [nw a now] from hs_box w2 (nw a now))
        have HC3 := Lib.hid (HCC.out _ _ R3.out RX3.out)
        have B4 := Lib.hid (show Below w.heap.size w ((w2.alloc (.cells #[.int .u32 a, .int .i64 (cl now), .int .i64 0, .int .i64 0] 74)).alloc (.cells #[.slice A L cap, .slice (some ⟨w2.heap.size, 0, none⟩) 1 1] 33)) from B3.out.alloc B3.out.size _)
        rw [World.size_alloc] at HC3
        go_wp2_with fail
        refine (HC.out _).mono ?_
        rintro e w5 ⟨rfl, rfl⟩
        go_wp2_with fail
        refine HC3.out.mono ?_
        rintro e w6 ⟨v, rfl, ho, hb⟩
        have B6 := Lib.hid (B4.out.trans (hb.mono B4.out.size))
        have O6 := Lib.hid ho
        clear hb ho
        go_wp2_with fail
        go_ret2
        exact out_yes O6.out HYL.out B6.out
      · have h16' : decide ((xs.length : Int) < 16) = false := decide_eq_false (by omega)
        rw [if_neg h16] at HRS
        cases hsp : spO c.i now xs with
        | none =>
          rw [hsp] at HRS HSP
          have HT := Lib.hid (show s = ([], 4) by rw [HRS.out]; rfl)
          rw [HT.out]
          dsimp only [fnI] at HSP
          clear h HT HRS h16 HSA hsp
          generalize xs.length = L at *
          go_enter Tryz.func68, Tryz.ntmps68
          go_wp2_with fail
          generalize w.alloc (.cells #[.int .i64 c.a, .int .i64 c.b, .int .i64 c.c, .int .i64 c.d, .int .i64 c.e, .int .i64 c.f, .int .i64 c.g, .int .i64 c.h, .int .i64 c.i] 27) = W0 at *
          refine HFI.out.mono ?_
          rintro e w1 ⟨rfl, hb⟩
          have B1 := Lib.hid (HB0.out.trans (hb.mono HB0.out.size))
          have R1 := Lib.hid (R0.out.below hb)
          have C1 := Lib.hid (C0.out.below hb)
          clear hb R0 C0
          go_wp2_with (refine at_load27 (.tmp 4) rfl rfl _ c rfl C1.out.at ?_)
          refine (HAQ.out _ R1.out).mono ?_
          rintro e w2 ⟨rfl, hb⟩
          have B2 := Lib.hid (B1.out.trans (hb.mono B1.out.size))
          have R2 := Lib.hid (R1.out.below hb)
          have C2 := Lib.hid (C1.out.below hb)
          clear hb R1 C1
          have B3 := Lib.hid (show Below w.heap.size w (w2.alloc (.cells #[.int .u32 a, .int .i64 (cl now), .int .i64 0, .int .i64 0] 74)) from B2.out.alloc B2.out.size _)
          have R3 := Lib.hid (show Rw eA (w2.alloc (.cells #[.int .u32 a, .int .i64 (cl now), .int .i64 0, .int .i64 0] 74)) A xs from R2.out.below ((Below.refl _ w2).alloc (Nat.le_refl _) _))
          have C3 := Lib.hid (show Cm (w2.alloc (.cells #[.int .u32 a, .int .i64 (cl now), .int .i64 0, .int .i64 0] 74)) w.heap.size c from C2.out.below ((Below.refl _ w2).alloc (Nat.le_refl _) _))
          have RX3 := Lib.hid (show Rw eA (w2.alloc (.cells #[.int .u32 a, .int .i64 (cl now), .int .i64 0, .int .i64 0] 74)) (some ⟨w2.heap.size, 0, none⟩) [nw a now] from hs_box w2 (nw a now))
          have RXL := Lib.hid (show w2.heap.size < (w2.alloc (.cells #[.int .u32 a, .int .i64 (cl now), .int .i64 0, .int .i64 0] 74)).heap.size by simp)
          go_wp2_with fail
          refine (HC.out _).mono ?_
          rintro e w5 ⟨rfl, rfl⟩
          go_upto_region 8 with fail
          generalize w2.alloc (.cells #[.int .u32 a, .int .i64 (cl now), .int .i64 0, .int .i64 0] 74) = W3 at *
          go_wp2_with (refine at_load27 (.tmp 4) rfl rfl _ c rfl C3.out.at ?_)
          refine (HSP.out _ R3.out).mono ?_
          rintro e w6 ⟨rfl, hb⟩
          have B6 := Lib.hid (B3.out.trans (hb.mono B3.out.size))
          clear hb
          go_wp2_with fail
          go_ret2
          exact out_no w w6 4 B6.out
        | some P =>
          obtain ⟨z, hz, hlt, -, -⟩ := HSA.out P hsp
          rw [hsp] at HRS HSP
          dsimp only [fnI] at HSP
          obtain ⟨y, rfl⟩ := rw_some h (by omega)
          obtain ⟨ys, hys⟩ : ∃ ys, del xs P ++ [nw a now] = ys := ⟨_, rfl⟩
          have HT := Lib.hid (show s = (ys, 0) by rw [HRS.out, ← hys]; rfl)
          rw [HT.out]
          have e1 : (xs.take P).length = P := by rw [List.length_take]; omega
          have e2 : (xs.drop (P + 1)).length = xs.length - (P + 1) := by rw [List.length_drop]
          have hyl : ys.length ≤ 1000 := by rw [← hys]; unfold del; rw [List.length_append, List.length_append, e1, e2]; simp; omega
          have HYL := Lib.hid hyl
          have HPM := Lib.hid (show ∀ g W, Rw eA W (some y) xs → Rw eA W (some ⟨g, 0, none⟩) [nw a now] → pF [⟨some y, xs.take P, cap⟩, ⟨dA 4 (some y) cap (P + 1), xs.drop (P + 1), cap - (P + 1)⟩, ⟨some ⟨g, 0, none⟩, [nw a now], 1⟩] (.slice (some ⟨W.heap.size, 0, none⟩) 3 3) (W.alloc (.cells #[.slice (some y) P cap, .slice (dA 4 (some y) cap (P + 1)) (xs.length - (P + 1)) (cap - (P + 1)), .slice (some ⟨g, 0, none⟩) 1 1] 33)) from fun g W hH hX => by
            have := pm_three W ⟨some y, xs.take P, cap⟩ ⟨dA 4 (some y) cap (P + 1), xs.drop (P + 1), cap - (P + 1)⟩ ⟨some ⟨g, 0, none⟩, [nw a now], 1⟩ 33 (hH.take _) (hH.rest hc _) hX
            dsimp only at this
            rw [e1, e2] at this
            exact ⟨_, rfl, this⟩)
          have HCC := Lib.hid (show ∀ g W, Below w.heap.size w W → ∀ b, Pm eA W b [⟨some y, xs.take P, cap⟩, ⟨dA 4 (some y) cap (P + 1), xs.drop (P + 1), cap - (P + 1)⟩, ⟨some ⟨g, 0, none⟩, [nw a now], 1⟩] → Calls Tryz.prog 109 #[.slice (some ⟨b, 0, none⟩) 3 3] W fun e w' => ∃ v, e = .returned v ∧ Below W.heap.size W w' ∧ oF w.heap.size ys v w' from fun g W hW b hb => by
            have hcat : cat [(⟨some y, xs.take P, cap⟩ : Pt Ca), ⟨dA 4 (some y) cap (P + 1), xs.drop (P + 1), cap - (P + 1)⟩, ⟨some ⟨g, 0, none⟩, [nw a now], 1⟩] 3 = ys := by rw [← hys]; simp [cat, del]
            have := concat_any [(⟨some y, xs.take P, cap⟩ : Pt Ca), ⟨dA 4 (some y) cap (P + 1), xs.drop (P + 1), cap - (P + 1)⟩, ⟨some ⟨g, 0, none⟩, [nw a now], 1⟩] b 3 W hb (by simp only [List.length_cons, List.length_nil, Nat.zero_add, Nat.reduceAdd]; rw [hcat]; omega) (by simp)
            simp only [List.length_cons, List.length_nil, Nat.zero_add, Nat.reduceAdd] at this
            rw [hcat] at this
            refine this.mono ?_
            rintro e w' ⟨v, he, ho, hbb⟩
            exact ⟨v, he, hbb, own_base ho hW.size⟩)
          have HSH := Lib.hid (fun W => run_sl29 (some y) xs.length cap P (by omega) W)
          have HSL := Lib.hid (fun W => run_sl29l (some y) xs.length cap (P + 1) (by omega) hc W)
          have HW := Lib.hid (show IntKind.i64.wrap ((P : Int) + 1) = (P : Int) + 1 by rw [IntKind.wrap_i64]; omega)
          clear hys hyl e1 e2 h HT HRS hsp HSA hz h16
          generalize hLL : xs.length = L at *
          clear hLL
          go_enter Tryz.func68, Tryz.ntmps68
          go_wp2_with fail
          generalize w.alloc (.cells #[.int .i64 c.a, .int .i64 c.b, .int .i64 c.c, .int .i64 c.d, .int .i64 c.e, .int .i64 c.f, .int .i64 c.g, .int .i64 c.h, .int .i64 c.i] 27) = W0 at *
          refine HFI.out.mono ?_
          rintro e w1 ⟨rfl, hb⟩
          have B1 := Lib.hid (HB0.out.trans (hb.mono HB0.out.size))
          have R1 := Lib.hid (R0.out.below hb)
          have C1 := Lib.hid (C0.out.below hb)
          clear hb R0 C0
          go_wp2_with (refine at_load27 (.tmp 4) rfl rfl _ c rfl C1.out.at ?_)
          refine (HAQ.out _ R1.out).mono ?_
          rintro e w2 ⟨rfl, hb⟩
          have B2 := Lib.hid (B1.out.trans (hb.mono B1.out.size))
          have R2 := Lib.hid (R1.out.below hb)
          have C2 := Lib.hid (C1.out.below hb)
          clear hb R1 C1
          have B3 := Lib.hid (show Below w.heap.size w (w2.alloc (.cells #[.int .u32 a, .int .i64 (cl now), .int .i64 0, .int .i64 0] 74)) from B2.out.alloc B2.out.size _)
          have R3 := Lib.hid (show Rw eA (w2.alloc (.cells #[.int .u32 a, .int .i64 (cl now), .int .i64 0, .int .i64 0] 74)) (some y) xs from R2.out.below ((Below.refl _ w2).alloc (Nat.le_refl _) _))
          have C3 := Lib.hid (show Cm (w2.alloc (.cells #[.int .u32 a, .int .i64 (cl now), .int .i64 0, .int .i64 0] 74)) w.heap.size c from C2.out.below ((Below.refl _ w2).alloc (Nat.le_refl _) _))
          have RX3 := Lib.hid (show Rw eA (w2.alloc (.cells #[.int .u32 a, .int .i64 (cl now), .int .i64 0, .int .i64 0] 74)) (some ⟨w2.heap.size, 0, none⟩) [nw a now] from hs_box w2 (nw a now))
          have RXL := Lib.hid (show w2.heap.size < (w2.alloc (.cells #[.int .u32 a, .int .i64 (cl now), .int .i64 0, .int .i64 0] 74)).heap.size by simp)
          go_wp2_with fail
          refine (HC.out _).mono ?_
          rintro e w5 ⟨rfl, rfl⟩
          go_upto_region 8 with fail
          generalize w2.alloc (.cells #[.int .u32 a, .int .i64 (cl now), .int .i64 0, .int .i64 0] 74) = W3 at *
          have hg3 : w2.heap.size < W3.heap.size := RXL.out
          go_wp2_with (refine at_load27 (.tmp 4) rfl rfl _ c rfl C3.out.at ?_)
          refine (HSP.out _ R3.out).mono ?_
          rintro e w6 ⟨rfl, hb⟩
          have HB6 := Lib.hid (B3.out.trans (hb.mono B3.out.size))
          have R6 := Lib.hid (R3.out.below hb)
          have RX6 := Lib.hid (RX3.out.below hb)
          clear hb R3 RX3 C3 B3 hg3 RXL
          go_wp2_with fail
          generalize w2.heap.size = G at *
          obtain ⟨ps, hps⟩ : ∃ ps : List (Pt Ca), ps = [⟨some y, xs.take P, cap⟩, ⟨dA 4 (some y) cap (P + 1), xs.drop (P + 1), cap - (P + 1)⟩, ⟨some ⟨G, 0, none⟩, [nw a now], 1⟩] := ⟨_, rfl⟩
          have HPM2 := Lib.hid fun W => HPM.out G W
          have HCC2 := Lib.hid fun W => HCC.out G W
          have HPL := Lib.hid (show ps.length = 3 by rw [hps]; rfl)
          rw [← hps] at HPM2 HCC2
          clear hps HPM HCC
          refine wp_region_below [fx (.slice (some y) L cap), fx (.int .i64 (P : Int)), fx (.slice (some y) P cap), fx (.slice (some y) L cap), fx (.int .i64 (P : Int)), fx (.int .i64 ((P + 1 : Nat) : Int)), fx (.slice (dA 4 (some y) cap (P + 1)) (L - (P + 1)) (cap - (P + 1))), fx (.slice (some ⟨G, 0, none⟩) 1 1), pF ps, oF w.heap.size ys, oF w.heap.size ys, fx (.int .i64 0)]
            (by kernel_rfl) (by kernel_rfl) (by kernel_rfl) ?_ ?_ ?_
          · simp only [List.mem_cons, List.not_mem_nil, or_false]
            rintro φ (rfl | rfl | rfl | rfl | rfl | rfl | rfl | rfl | rfl | rfl | rfl | rfl)
            all_goals first | exact stable_fx _ | exact stable_fr _ _ | exact stable_pF _ | exact stable_oF _ _
          · refine OgSteps.cons ?_ (OgSteps.cons ?_ (OgSteps.cons ?_ (OgSteps.cons ?_ (OgSteps.cons ?_ (OgSteps.cons ?_ (OgSteps.cons ?_ (OgSteps.cons ?_ (OgSteps.cons ?_ (OgSteps.cons ?_ (OgSteps.cons ?_ (OgSteps.cons ?_ (OgSteps.nil))))))))))))
            · refine OgStep.pure ?_ ?_
              · rfl
              intro u W hS hp
              refine ⟨.slice (some y) L cap, ?_, rfl⟩
              simp only [ogMk, Act.put, List.setIfInBounds_toArray, List.set_cons_zero, List.set_cons_succ, Nat.zero_add, Nat.reduceAdd, List.take_succ_cons, List.take_zero, List.drop_succ_cons, List.drop_zero]
              simp [execOp, Act.eval, go_sem]
            · refine OgStep.pure ?_ ?_
              · rfl
              intro u W hS hp
              refine ⟨.int .i64 (P : Int), ?_, rfl⟩
              simp only [ogMk, Act.put, List.setIfInBounds_toArray, List.set_cons_zero, List.set_cons_succ, Nat.zero_add, Nat.reduceAdd, List.take_succ_cons, List.take_zero, List.drop_succ_cons, List.drop_zero]
              simp [execOp, Act.eval, go_sem]
            · refine OgStep.pure ?_ ?_
              · rfl
              intro u W hS hp
              have h0 : u 0 = .slice (some y) L cap := hp ⟨0, .data⟩ (by simp) rfl
              have h1 : u 1 = .int .i64 (P : Int) := hp ⟨1, .data⟩ (by simp) rfl
              have R := HSH.out W
              refine ⟨.slice (some y) P cap, ?_, rfl⟩
              simp only [ogMk, Act.put, List.setIfInBounds_toArray, List.set_cons_zero, List.set_cons_succ, Nat.zero_add, Nat.reduceAdd, List.take_succ_cons, List.take_zero, List.drop_succ_cons, List.drop_zero]
              simp [execOp, Act.eval, go_sem, h0, h1, R]
            · refine OgStep.pure ?_ ?_
              · rfl
              intro u W hS hp
              refine ⟨.slice (some y) L cap, ?_, rfl⟩
              simp only [ogMk, Act.put, List.setIfInBounds_toArray, List.set_cons_zero, List.set_cons_succ, Nat.zero_add, Nat.reduceAdd, List.take_succ_cons, List.take_zero, List.drop_succ_cons, List.drop_zero]
              simp [execOp, Act.eval, go_sem]
            · refine OgStep.pure ?_ ?_
              · rfl
              intro u W hS hp
              refine ⟨.int .i64 (P : Int), ?_, rfl⟩
              simp only [ogMk, Act.put, List.setIfInBounds_toArray, List.set_cons_zero, List.set_cons_succ, Nat.zero_add, Nat.reduceAdd, List.take_succ_cons, List.take_zero, List.drop_succ_cons, List.drop_zero]
              simp [execOp, Act.eval, go_sem]
            · refine OgStep.pure ?_ ?_
              · rfl
              intro u W hS hp
              have h4 : u 4 = .int .i64 (P : Int) := hp ⟨4, .data⟩ (by simp) rfl
              have R := HW.out
              refine ⟨.int .i64 ((P + 1 : Nat) : Int), ?_, rfl⟩
              simp only [ogMk, Act.put, List.setIfInBounds_toArray, List.set_cons_zero, List.set_cons_succ, Nat.zero_add, Nat.reduceAdd, List.take_succ_cons, List.take_zero, List.drop_succ_cons, List.drop_zero]
              simp [execOp, Act.eval, go_sem, h4, R]
            · refine OgStep.pure ?_ ?_
              · rfl
              intro u W hS hp
              have h3 : u 3 = .slice (some y) L cap := hp ⟨3, .data⟩ (by simp) rfl
              have h5 : u 5 = .int .i64 ((P + 1 : Nat) : Int) := hp ⟨5, .data⟩ (by simp) rfl
              have R := HSL.out W
              rw [show ((P + 1 : Nat) : Int) = (P : Int) + 1 by omega] at R
              refine ⟨.slice (dA 4 (some y) cap (P + 1)) (L - (P + 1)) (cap - (P + 1)), ?_, rfl⟩
              simp only [ogMk, Act.put, List.setIfInBounds_toArray, List.set_cons_zero, List.set_cons_succ, Nat.zero_add, Nat.reduceAdd, List.take_succ_cons, List.take_zero, List.drop_succ_cons, List.drop_zero]
              simp [execOp, Act.eval, go_sem, h3, h5, R]
            · refine OgStep.pure ?_ ?_
              · rfl
              intro u W hS hp
              refine ⟨.slice (some ⟨G, 0, none⟩) 1 1, ?_, rfl⟩
              simp only [ogMk, Act.put, List.setIfInBounds_toArray, List.set_cons_zero, List.set_cons_succ, Nat.zero_add, Nat.reduceAdd, List.take_succ_cons, List.take_zero, List.drop_succ_cons, List.drop_zero]
              simp [execOp, Act.eval, go_sem]
            · refine OgStep.made ?_ ?_
              · rfl
              intro u W hS hp
              have h2 : u 2 = .slice (some y) P cap := hp ⟨2, .data⟩ (by simp) rfl
              have h6 : u 6 = .slice (dA 4 (some y) cap (P + 1)) (L - (P + 1)) (cap - (P + 1)) := hp ⟨6, .data⟩ (by simp) rfl
              have h7 : u 7 = .slice (some ⟨G, 0, none⟩) 1 1 := hp ⟨7, .data⟩ (by simp) rfl
              refine ⟨.slice (some ⟨W.heap.size, 0, none⟩) 3 3, _, ?_, (Below.refl _ W).alloc (Nat.le_refl _) _, HPM2.out W (R6.out.below hS) (RX6.out.below hS)⟩
              simp only [ogMk, Act.put, List.setIfInBounds_toArray, List.set_cons_zero, List.set_cons_succ, Nat.zero_add, Nat.reduceAdd, List.take_succ_cons, List.take_zero, List.drop_succ_cons, List.drop_zero]
              simp [execOp, Act.eval, go_sem, h2, h6, h7]
            · refine OgStep.calls ?_ ?_
              · rfl
              intro u W hS hp
              obtain ⟨b, h8, hPm⟩ : pF ps (u 8) W := hp ⟨8, .data⟩ (by simp) rfl
              refine ⟨109, #[.slice (some ⟨b, 0, none⟩) 3 3], ?_, HCC2.out W (HB6.out.trans (hS.mono HB6.out.size)) b hPm⟩
              simp only [ogMk, Act.put, List.setIfInBounds_toArray, List.set_cons_zero, List.set_cons_succ, Nat.zero_add, Nat.reduceAdd, List.take_succ_cons, List.take_zero, List.drop_succ_cons, List.drop_zero]
              rw [h8, HPL.out]
              simp [execOp, Act.eval, go_sem]
            · refine OgStep.pure ?_ ?_
              · rfl
              intro u W hS hp
              have h9 : oF w.heap.size ys (u 9) W := hp ⟨9, .data⟩ (by simp) rfl
              refine ⟨u 9, ?_, h9⟩
              simp only [ogMk, Act.put, List.setIfInBounds_toArray, List.set_cons_zero, List.set_cons_succ, Nat.zero_add, Nat.reduceAdd, List.take_succ_cons, List.take_zero, List.drop_succ_cons, List.drop_zero]
              simp [execOp, Act.eval, go_sem]
            · refine OgStep.pure ?_ ?_
              · rfl
              intro u W hS hp
              refine ⟨.int .i64 0, ?_, rfl⟩
              simp only [ogMk, Act.put, List.setIfInBounds_toArray, List.set_cons_zero, List.set_cons_succ, Nat.zero_add, Nat.reduceAdd, List.take_succ_cons, List.take_zero, List.drop_succ_cons, List.drop_zero]
              simp [execOp, Act.eval, go_sem]
          · intro u W hS hF'
            have hF9 : oF w.heap.size ys (u 10) W := hF' 10 (by decide)
            have hF := hF'
            have e0 : u 0 = .slice (some y) L cap := hF 0 (by decide)
            have e1 : u 1 = .int .i64 (P : Int) := hF 1 (by decide)
            have e2 : u 2 = .slice (some y) P cap := hF 2 (by decide)
            have e3 : u 3 = .slice (some y) L cap := hF 3 (by decide)
            have e4 : u 4 = .int .i64 (P : Int) := hF 4 (by decide)
            have e5 : u 5 = .int .i64 ((P + 1 : Nat) : Int) := hF 5 (by decide)
            have e6 : u 6 = .slice (dA 4 (some y) cap (P + 1)) (L - (P + 1)) (cap - (P + 1)) := hF 6 (by decide)
            have e7 : u 7 = .slice (some ⟨G, 0, none⟩) 1 1 := hF 7 (by decide)
            have e11 : u 11 = .int .i64 0 := hF 11 (by decide)
            simp only [ogMk, Act.put, List.setIfInBounds_toArray, List.set_cons_zero, List.set_cons_succ, Nat.zero_add, Nat.reduceAdd, List.take_succ_cons, List.take_zero, List.drop_succ_cons, List.drop_zero]
            rw [e0, e1, e2, e3, e4, e5, e6, e7, e11]
            clear hF' e0 e1 e2 e3 e4 e5 e6 e7 e11 hF
            go_wp2_with fail
            go_ret2
            exact out_yes (hF9 : W.ownsRow w.heap.size 74 4 (u 10) ys.length (eA.cs ys)) HYL.out (HB6.out.trans (hS.mono HB6.out.size))
    · rw [if_pos rfl] at HRS
      have HT := Lib.hid HRS.out
      rw [HT.out]
      clear h HRS HSA HSP HT
      generalize xs.length = L at *
      go_enter Tryz.func68, Tryz.ntmps68
      go_wp2_with fail
      generalize w.alloc (.cells #[.int .i64 c.a, .int .i64 c.b, .int .i64 c.c, .int .i64 c.d, .int .i64 c.e, .int .i64 c.f, .int .i64 c.g, .int .i64 c.h, .int .i64 c.i] 27) = W0 at *
      refine HFI.out.mono ?_
      rintro e w1 ⟨rfl, hb⟩
      have B1 := Lib.hid (HB0.out.trans (hb.mono HB0.out.size))
      have R1 := Lib.hid (R0.out.below hb)
      have C1 := Lib.hid (C0.out.below hb)
      clear hb R0 C0
      go_wp2_with (refine at_load27 (.tmp 4) rfl rfl _ c rfl C1.out.at ?_)
      refine (HAQ.out _ R1.out).mono ?_
      rintro e w2 ⟨rfl, hb⟩
      have B2 := Lib.hid (B1.out.trans (hb.mono B1.out.size))
      clear hb R1 C1
      go_wp2_with fail
      go_ret2
      exact out_no w w2 8 B2.out
end Go.Proofs.YtilneflfeegnfaaGreat.Cs
namespace Go.Proofs.YtilneflfeegnfaaGreat.Cs
open Go.RowKit
def rkx (xs : List Ca) (k : Nat) (x : Ca) : Bool := rcB x && !(opB x && (fnI (fnd x.a xs) != (k : Int)))
def rk (xs : List Ca) (k : Nat) : Bool := match xs[k]? with
  | some x => rkx xs k x
  | none => true
theorem rk_at {xs : List Ca} {k : Nat} {x : Ca} (h : xs[k]? = some x) : rk xs k = rkx xs k x := by unfold rk; rw [h]
def rgB (xs : List Ca) : Bool := decide (xs.length ≤ 16) && (List.range xs.length).all (rk xs)
theorem rk_all (xs : List Ca) (k : Nat) : (List.range (k + 1)).all (rk xs) = ((List.range k).all (rk xs) && rk xs k) := by
  rw [List.range_succ, List.all_append]; simp
theorem all_no {xs : List Ca} {k : Nat} (hk : k < xs.length) (h : rk xs k = false) : (List.range xs.length).all (rk xs) = false := by
  rw [Bool.eq_false_iff]
  intro hc
  rw [List.all_eq_true] at hc
  have := hc k (List.mem_range.2 hk)
  rw [h] at this; cases this
theorem rgB_no {xs : List Ca} {k : Nat} (hk : k < xs.length) (h : rk xs k = false) : rgB xs = false := by
  unfold rgB
  rw [all_no hk h, Bool.and_false]
set_option maxRecDepth 100000 in
set_option maxHeartbeats 8000000 in
theorem right_row (A : Option Addr) (xs : List Ca) (cap : Nat) (w : World) (h : Rw eA w A xs) (hcap : xs.length ≤ cap) :
    Calls Tryz.prog 42 #[.slice A xs.length cap] w fun e w' => e = .returned (.bool (rgB xs)) ∧ Below w.heap.size w w' := by
  have hln := h.1
  have R := Lib.hid h
  have HNO := Lib.hid (fun k => @rgB_no xs k)
  have HRG := Lib.hid (show rgB xs = _ by unfold rgB; rfl)
  have HAT := Lib.hid fun k (hk : k < xs.length) => at_of_lt hk
  have HRK := Lib.hid fun k x => @rk_at xs k x
  have HRC := Lib.hid fun x W => rightCase_any x W
  have HOP := Lib.hid fun x W => open_any x W
  have HFI := Lib.hid fun a W hR => find_any a A xs cap W hR
  clear h
  by_cases h16 : 16 < xs.length
  · have HF := Lib.hid (show rgB xs = false by rw [HRG.out, decide_eq_false (by omega)]; rfl)
    generalize xs.length = L at *
    go_enter Tryz.func42, Tryz.ntmps42
    go_wp2_with fail
    go_ret
    exact ⟨by rw [HF.out]; rfl, Below.refl _ _⟩
  · have h16' : xs.length ≤ 16 := by omega
    rw [decide_eq_true h16', Bool.true_and] at HRG
    obtain ⟨L, hL⟩ : ∃ L, xs.length = L := ⟨_, rfl⟩
    have HL := Lib.hid hL
    rw [hL] at hln hcap HRG HNO h16 h16' HAT HFI ⊢
    clear hL
    go_enter Tryz.func42, Tryz.ntmps42
    go_wp2_with fail
    go_loopw [10] (fun i wr => ∃ k : Nat, i = .int .i64 k ∧ k ≤ L ∧ Hid (Below w.heap.size w wr) ∧ Hid ((List.range k).all (rk xs) = true)) (fun i _ => L - (intOf i).toNat)
    case atStart => exact ⟨0, rfl, by omega, Lib.hid (Below.refl _ _), Lib.hid rfl⟩
    case round =>
      obtain ⟨k, rfl, hk, HW, HF⟩ := hrel
      by_cases hkL : k < L
      · obtain ⟨x, hx⟩ := HAT.out k hkL
        obtain ⟨y, rfl⟩ := rw_some R.out (by rw [HL.out]; omega)
        have RW := Lib.hid (R.out.below HW.out)
        have hat := RW.out.at hx
        have Q1 := Lib.hid (qb_box wr x)
        have B1 := Lib.hid (show Below w.heap.size w (wr.alloc (Cax x)) from HW.out.alloc HW.out.size _)
        have R1 := Lib.hid (RW.out.below ((Below.refl _ wr).alloc (Nat.le_refl _) (Cax x)))
        have hsz : wr.heap.size < (wr.alloc (Cax x)).heap.size := by simp
        have HKK := Lib.hid (show rk xs k = (rcB x && !(opB x && (fnI (fnd x.a xs) != (k : Int)))) from HRK.out k x hx)
        have HRX := Lib.hid (HRC.out x)
        have HOX := Lib.hid (HOP.out x)
        have HFX := Lib.hid (HFI.out x.a)
        obtain ⟨b1, hb1⟩ : ∃ b, rcB x = b := ⟨_, rfl⟩
        obtain ⟨b2, hb2⟩ : ∃ b, opB x = b := ⟨_, rfl⟩
        obtain ⟨F, hF⟩ : ∃ F, fnI (fnd x.a xs) = F := ⟨_, rfl⟩
        rw [hb1] at HKK HRX
        rw [hb2] at HKK HOX
        rw [hF] at HKK HFX
        clear hx hb1 hb2 hF
        unfold cav Cax at *
        go_upto_region 6 with (refine at_load37 (.tmp 13) rfl rfl (y.add (k * 4)) x rfl hat ?_)
        generalize wr.alloc (.cells #[.int .u32 x.a, .int .i64 x.r, .int .i64 x.d, .int .i64 x.g] 74) = W at *
        clear hat RW
        go_wp2_with (refine at_load37 (.tmp 4) rfl rfl _ x rfl Q1.out.at ?_)
        refine (HRX.out _).mono ?_
        rintro e w2 ⟨rfl, hb⟩
        have B2 := Lib.hid (B1.out.trans (hb.mono B1.out.size))
        have Q2 := Lib.hid (Q1.out.below hb)
        have R2 := Lib.hid (R1.out.below hb)
        clear hb B1 Q1 R1
        cases b1
        · have HKF := Lib.hid (show rk xs k = false by rw [HKK.out]; rfl)
          have B9 := B2
          go_wp2_with fail
          go_ret
          exact ⟨by rw [HNO.out k hkL HKF.out]; rfl, B9.out⟩
        · go_wp2_with (refine at_load37g (.tmp 4) _ x rfl ?_ rfl Q2.out.at ?_; (with_reducible rfl))
          refine (HOX.out _).mono ?_
          rintro e w3 ⟨rfl, hb⟩
          have B3 := Lib.hid (B2.out.trans (hb.mono B2.out.size))
          have Q3 := Lib.hid (Q2.out.below hb)
          have R3 := Lib.hid (R2.out.below hb)
          clear hb B2 Q2 R2
          cases b2
          · have HKT := Lib.hid (show rk xs k = true by rw [HKK.out]; rfl)
            have B9 := B3
            go_wp2_with fail
            go_roundw
            case rel => exact ⟨k + 1, by go_num, by omega, B9, Lib.hid (by rw [rk_all, HF.out, HKT.out]; rfl)⟩
            case measure => simp [intOf]; omega
          · obtain ⟨q0, -, -, -⟩ := Q3.out.c
            go_wp2_with fail
            refine (HFX.out _ R3.out).mono ?_
            rintro e w4 ⟨rfl, hb⟩
            have B9 := Lib.hid (B3.out.trans (hb.mono B3.out.size))
            clear hb q0 B3 Q3
            cases hne : (F != (k : Int))
            · have HKT := Lib.hid (show rk xs k = true by rw [HKK.out, hne]; rfl)
              go_wp2_with fail
              go_roundw
              case rel => exact ⟨k + 1, by go_num, by omega, B9, Lib.hid (by rw [rk_all, HF.out, HKT.out]; rfl)⟩
              case measure => simp [intOf]; omega
            · have HKF := Lib.hid (show rk xs k = false by rw [HKK.out, hne]; rfl)
              go_wp2_with fail
              go_ret
              exact ⟨by rw [HNO.out k hkL HKF.out]; rfl, B9.out⟩
      · obtain rfl : k = L := by omega
        go_wp2_with fail
        go_ret
        exact ⟨by rw [HRG.out, HF.out]; rfl, HW.out⟩
end Go.Proofs.YtilneflfeegnfaaGreat.Cs
namespace Go.Proofs.YtilneflfeegnfaaGreat.Cs
def oa (xs : List Ca) (a : Int) : Bool := xs.any (fm a)
theorem oa_fnd (xs : List Ca) (a : Int) : (fnd a xs).isSome = oa xs a := by unfold fnd oa; exact List.findIdx?_isSome
theorem rk_oa {xs : List Ca} {k : Nat} {x : Ca} (hx : xs[k]? = some x) : rk xs k = (rcB x && !(opB x && oa (xs.take k) x.a)) := by
  rw [rk_at hx]
  unfold rkx
  cases ho : opB x
  · simp
  · congr 2
    simp only [Bool.true_and]
    rw [← oa_fnd]
    cases hf : fnd x.a (xs.take k) with
    | none => rw [fnd_found hf hx (by simp [fm, ho])]; simp [fnI]
    | some i =>
      have hi : i < (xs.take k).length := fnd_lt hf
      rw [List.length_take] at hi
      have : fnd x.a xs = some i := by
        unfold fnd at *
        have e : xs = xs.take k ++ xs.drop k := (List.take_append_drop _ _).symm
        rw [e, List.findIdx?_append, hf]
        rfl
      rw [this]
      simp [fnI]
      omega
def Au (xs : List Ca) : Prop := ∀ x ∈ xs, 0 ≤ x.a ∧ x.a < 4294967296
theorem rcB_eq (x : Ca) : rcB x = (decide (0 ≤ x.g) && decide (x.g ≤ 5) && decide (0 ≤ x.r) && decide (x.r ≤ 1099511627776) && decide (0 ≤ x.d) && decide (x.d ≤ 1099511627776) && (if opB x = true then decide (x.d = 0) else decide (x.r ≤ x.d))) := by
  unfold rcB
  rw [show decide (x.r = cl x.r) = (decide (0 ≤ x.r) && decide (x.r ≤ 1099511627776)) by rw [← Bool.decide_and]; exact decide_eq_decide.2 (cl_iff _),
    show decide (x.d = cl x.d) = (decide (0 ≤ x.d) && decide (x.d ≤ 1099511627776)) by rw [← Bool.decide_and]; exact decide_eq_decide.2 (cl_iff _)]
  simp only [Bool.and_assoc]
open Go.RowKit
theorem op_iff (x : Ca) : opB x = true ↔ x.g = 0 ∨ x.g = 1 := by unfold opB; simp
theorem oa_no {xs : List Ca} {a : Int} : oa xs a = false ↔ ∀ x ∈ xs, opB x = true → x.a ≠ a := by
  unfold oa
  rw [List.any_eq_false]
  constructor
  · intro h x hx ho e
    have := h x hx
    unfold fm at this
    rw [ho, e] at this
    simp at this
  · intro h x hx hf
    unfold fm at hf
    simp only [Bool.and_eq_true, beq_iff_eq] at hf
    exact h x hx hf.2 hf.1
theorem fnd_no {xs : List Ca} {a : Int} (h : fnd a xs = none) : ∀ x ∈ xs, opB x = true → x.a ≠ a := by
  have := oa_fnd xs a
  rw [h] at this
  exact oa_no.1 this.symm
theorem fnd_none {xs : List Ca} {a : Int} (h : ∀ x ∈ xs, opB x = true → x.a ≠ a) : fnd a xs = none := by
  have := oa_fnd xs a
  rw [oa_no.2 h] at this
  cases hf : fnd a xs with
  | none => rfl
  | some i => rw [hf] at this; cases this
theorem fnd_at {xs : List Ca} {a : Int} {i : Nat} (h : fnd a xs = some i) : ∃ x, xs[i]? = some x ∧ x.a = a ∧ opB x = true := by
  have hl := fnd_lt h
  unfold fnd at h
  obtain ⟨h1, h2, _⟩ := List.findIdx?_eq_some_iff_getElem.1 h
  refine ⟨xs[i], List.getElem?_eq_getElem hl, ?_⟩
  unfold fm at h2
  simpa using h2
structure Vr (xs : List Ca) : Prop where
  few : xs.length ≤ 16
  all : ∀ x ∈ xs, rcB x = true
  dis : xs.Pairwise fun x y => opB x = true → opB y = true → x.a ≠ y.a
theorem rg_ok {xs : List Ca} (h : Vr xs) : rgB xs = true := by
  unfold rgB
  rw [Bool.and_eq_true, decide_eq_true_eq, List.all_eq_true]
  refine ⟨h.few, fun k hk => ?_⟩
  have hk := List.mem_range.1 hk
  rw [rk_oa (List.getElem?_eq_getElem hk)]
  rw [h.all _ (List.getElem_mem hk), Bool.true_and]
  cases ho : opB xs[k]
  · rfl
  · rw [Bool.true_and, oa_no.2 (fun x hx hox e => ?_)]
    · rfl
    · obtain ⟨i, hi, rfl⟩ := List.mem_iff_getElem.1 hx
      rw [List.length_take] at hi
      rw [List.getElem_take] at hox e
      have := List.pairwise_iff_getElem.1 h.dis i k (by omega) hk (by omega)
      exact this hox ho e
structure V (xs : List Ca) : Prop where
  r : Vr xs
  u : Au xs
theorem V.nil : V [] := ⟨⟨by simp, fun x hx => by simp at hx, by simp⟩, fun x hx => by simp at hx⟩
theorem rc_out {x : Ca} (h : rcB x = true) : 0 ≤ x.g ∧ x.g ≤ 5 ∧ 0 ≤ x.r ∧ x.r ≤ 1099511627776 ∧ 0 ≤ x.d ∧ x.d ≤ 1099511627776 ∧ (opB x = true → x.d = 0) ∧ (opB x = false → x.r ≤ x.d) := by
  rw [rcB_eq] at h
  simp only [Bool.and_eq_true, decide_eq_true_eq] at h
  obtain ⟨⟨⟨⟨⟨⟨h1, h2⟩, h3⟩, h4⟩, h5⟩, h6⟩, h7⟩ := h
  refine ⟨h1, h2, h3, h4, h5, h6, fun ho => ?_, fun ho => ?_⟩
  · rw [if_pos ho] at h7; simpa using h7
  · rw [if_neg (by rw [ho]; simp)] at h7; simpa using h7
theorem rc_mk {x : Ca} (h1 : 0 ≤ x.g) (h2 : x.g ≤ 5) (h3 : 0 ≤ x.r) (h4 : x.r ≤ 1099511627776) (h5 : 0 ≤ x.d) (h6 : x.d ≤ 1099511627776) (h7 : opB x = true → x.d = 0) (h8 : opB x = false → x.r ≤ x.d) : rcB x = true := by
  rw [rcB_eq]
  simp only [Bool.and_eq_true, decide_eq_true_eq]
  refine ⟨⟨⟨⟨⟨⟨h1, h2⟩, h3⟩, h4⟩, h5⟩, h6⟩, ?_⟩
  cases ho : opB x
  · simp only [Bool.false_eq_true, if_false, decide_eq_true_eq]; exact h8 ho
  · simp only [if_true, decide_eq_true_eq]; exact h7 ho
structure Vn (s : List Ca × Int) : Prop where
  v : V s.1
  now : ∀ x ∈ s.1, x.r ≤ s.2
  n0 : 0 ≤ s.2
theorem Vn.nil : Vn ([], 0) := ⟨V.nil, fun x hx => by simp at hx, Int.le_refl _⟩
theorem nw_ok {a now : Int} (h0 : 0 ≤ now) (h1 : now ≤ 1099511627776) : rcB (nw a now) = true ∧ opB (nw a now) = true ∧ (nw a now).r = now := by
  have hc := cl_in h0 h1
  refine ⟨rc_mk (by simp [nw]) (by simp [nw]) (by simp [nw, hc, h0]) (by simp [nw, hc, h1]) (by simp [nw]) (by simp [nw]) (fun _ => by simp [nw]) (fun h => by simp [nw, opB] at h), by simp [nw, opB], by simp [nw, hc]⟩
theorem del_sub (xs : List Ca) (k : Nat) : (del xs k).Sublist xs := by
  unfold del
  conv => rhs; rw [← List.take_append_drop k xs]
  refine List.Sublist.append (List.Sublist.refl _) ?_
  rw [← List.drop_drop]
  exact List.drop_sublist _ _
theorem del_len {xs : List Ca} {k : Nat} (h : k < xs.length) : (del xs k).length = xs.length - 1 := by
  unfold del
  rw [List.length_append, List.length_take, List.length_drop]
  omega
theorem push_ok {xs ys : List Ca} {a now : Int} (h : Vn (xs, now)) (hs : ys.Sublist xs) (hn : fnd a xs = none) (hl : ys.length < 16) (h1 : now ≤ 1099511627776) (ha0 : 0 ≤ a) (ha1 : a < 4294967296) : Vn (ys ++ [nw a now], now) := by
  obtain ⟨n1, n2, n3⟩ := nw_ok (a := a) (now := now) h.n0 h1
  have hf := fnd_no hn
  refine ⟨⟨⟨by show (ys ++ [nw a now]).length ≤ 16; rw [List.length_append]; simp; omega, fun x hx => ?_, ?_⟩, fun x hx => ?_⟩, fun x hx => ?_, h.n0⟩
  · rcases List.mem_append.1 hx with hx | hx
    · exact h.v.r.all x (hs.subset hx)
    · simp at hx; subst hx; exact n1
  · rw [List.pairwise_append]
    refine ⟨h.v.r.dis.sublist hs, by simp, fun x hx y hy hox _ => ?_⟩
    simp at hy
    subst hy
    exact hf x (hs.subset hx) hox
  · rcases List.mem_append.1 hx with hx | hx
    · exact h.v.u x (hs.subset hx)
    · simp at hx; subst hx; exact ⟨ha0, ha1⟩
  · rcases List.mem_append.1 hx with hx | hx
    · exact h.now x (hs.subset hx)
    · simp at hx; subst hx; show (nw a now).r ≤ now; omega
theorem rs_ok {xs : List Ca} {q now a : Int} (h : Vn (xs, now)) (h1 : now ≤ 1099511627776) (ha0 : 0 ≤ a) (ha1 : a < 4294967296) (he : (rsO q now a xs).2 = 0) : Vn ((rsO q now a xs).1, now) := by
  have hfew := h.v.r.few
  dsimp only at hfew
  unfold rsO at *
  cases hf : fnd a xs with
  | some i => rw [hf] at he; simp [rs1] at he
  | none =>
    rw [hf] at he
    unfold rs1 at *
    dsimp only at *
    split at he
    · simp at he
    · rename_i hq
      rw [if_neg hq]
      split at he
      · rename_i h16
        rw [if_pos h16]
        exact push_ok h (List.Sublist.refl _) hf h16 h1 ha0 ha1
      · rename_i h16
        rw [if_neg h16]
        cases hs : spO q now xs with
        | none => rw [hs] at he; simp [rs2] at he
        | some i =>
          obtain ⟨z, hz, hlt, -, -⟩ := spk_at hs
          show Vn (del xs i ++ [nw a now], now)
          exact push_ok h (del_sub _ _) hf (by rw [del_len hlt]; omega) h1 ha0 ha1
theorem mv_ok {tg now : Int} {x : Ca} (ht0 : 1 ≤ tg) (ht1 : tg ≤ 5) (h0 : 0 ≤ now) (h1 : now ≤ 1099511627776) (hx : rcB x = true) (ho : opB x = true) (hr : x.r ≤ now) : rcB (mv tg now x) = true ∧ (mv tg now x).a = x.a ∧ (mv tg now x).r = x.r := by
  obtain ⟨g0, g1, r0, r1, d0, d1, k1, k2⟩ := rc_out hx
  have hc := cl_in h0 h1
  have hd := k1 ho
  unfold mv
  split
  · rename_i h
    exact ⟨rc_mk (by show 0 ≤ tg; omega) ht1 r0 r1 d0 d1 (fun _ => hd) (fun h' => by rw [h] at h'; cases h'), rfl, rfl⟩
  · rename_i h
    have e : opB ⟨x.a, x.r, cl now, tg⟩ = opB ⟨x.a, x.r, x.d, tg⟩ := rfl
    refine ⟨rc_mk (by show 0 ≤ tg; omega) ht1 r0 r1 (by show 0 ≤ cl now; omega) (by show cl now ≤ _; omega) (fun h' => by rw [e] at h'; exact absurd h' h) (fun _ => by show x.r ≤ cl now; omega), rfl, rfl⟩
theorem getD_at {xs : List Ca} {i : Nat} {x : Ca} (h : xs[i]? = some x) : xs.getD i zc = x := by rw [List.getD_eq_getElem?_getD, h]; rfl
theorem set_ok {xs : List Ca} {now : Int} {i : Nat} {x m : Ca} (h : Vn (xs, now)) (hx : xs[i]? = some x) (ho : opB x = true) (hm : rcB m = true) (ha : m.a = x.a) (hr : m.r = x.r) : Vn (xs.set i m, now) := by
  have hi := (List.getElem?_eq_some_iff.1 hx).1
  have hxe := (List.getElem?_eq_some_iff.1 hx).2
  have hxm := List.mem_of_getElem? hx
  refine ⟨⟨⟨by show (xs.set i m).length ≤ 16; rw [List.length_set]; exact h.v.r.few, fun y hy => ?_, ?_⟩, fun y hy => ?_⟩, fun y hy => ?_, h.n0⟩
  · rcases List.mem_or_eq_of_mem_set hy with hy | rfl
    · exact h.v.r.all y hy
    · exact hm
  · rw [List.pairwise_iff_getElem]
    intro j k hj hk hjk o1 o2
    rw [List.length_set] at hj hk
    have hd := List.pairwise_iff_getElem.1 h.v.r.dis j k hj hk hjk
    dsimp only at hd
    rw [List.getElem_set] at o1 o2 ⊢
    rw [List.getElem_set]
    by_cases e1 : i = j
    · subst e1
      rw [if_pos rfl] at o1 ⊢
      rw [if_neg (by omega)] at o2 ⊢
      rw [ha, ← hxe]
      exact hd (by rw [hxe]; exact ho) o2
    · rw [if_neg e1] at o1 ⊢
      by_cases e2 : i = k
      · subst e2
        rw [if_pos rfl] at o2 ⊢
        rw [ha, ← hxe]
        exact hd o1 (by rw [hxe]; exact ho)
      · rw [if_neg e2] at o2 ⊢
        exact hd o1 o2
  · rcases List.mem_or_eq_of_mem_set hy with hy | rfl
    · exact h.v.u y hy
    · rw [ha]; exact h.v.u x hxm
  · rcases List.mem_or_eq_of_mem_set hy with hy | rfl
    · exact h.now y hy
    · rw [hr]; exact h.now x hxm
theorem st_ok {xs : List Ca} {ck : Int → Bool} {tg now a : Int} (h : Vn (xs, now)) (h1 : now ≤ 1099511627776) (ht0 : 1 ≤ tg) (ht1 : tg ≤ 5) (he : (stO ck tg now a xs).2 = 0) : Vn ((stO ck tg now a xs).1, now) := by
  unfold stO at *
  cases hf : fnd a xs with
  | none => rw [hf] at he; simp at he
  | some i =>
    rw [hf] at he
    dsimp only at *
    split at he
    · rename_i hc
      rw [if_pos hc]
      obtain ⟨x, hx, hxa, ho⟩ := fnd_at hf
      have hxm := List.mem_of_getElem? hx
      obtain ⟨m1, m2, m3⟩ := mv_ok (tg := tg) (now := now) (x := x) ht0 ht1 h.n0 h1 (h.v.r.all x hxm) ho (h.now x hxm)
      unfold mvA
      rw [getD_at hx]
      exact set_ok h hx ho m1 m2 m3
    · simp at he
theorem tk_op {h now : Int} {x : Ca} (ho : opB (tk h now x) = true) : tk h now x = x ∧ opB x = true := by
  unfold tk at *
  split at ho
  · rename_i hc
    exfalso
    unfold mv at ho
    split at ho
    · rename_i h'; simp [opB] at h'
    · simp [opB] at ho
  · rename_i hc
    rw [if_neg hc]
    exact ⟨rfl, ho⟩
theorem tk_a (h now : Int) (x : Ca) : (tk h now x).a = x.a ∧ (tk h now x).r = x.r := by
  unfold tk
  split
  · unfold mv; split <;> exact ⟨rfl, rfl⟩
  · exact ⟨rfl, rfl⟩
theorem tick_ok {xs : List Ca} {h now t : Int} (hv : Vn (xs, now)) (h1 : now + t ≤ 1099511627776) (ht : 0 ≤ t) : Vn (tkO h (now + t) xs, now + t) := by
  have hn0 := hv.n0
  have hfew := hv.v.r.few
  dsimp only at hn0 hfew
  unfold tkO
  refine ⟨⟨⟨by show (xs.map _).length ≤ 16; rw [List.length_map]; exact hfew, fun y hy => ?_, ?_⟩, fun y hy => ?_⟩, fun y hy => ?_, by show 0 ≤ now + t; omega⟩
  · obtain ⟨x, hx, rfl⟩ := List.mem_map.1 hy
    have hrx := hv.now x hx
    dsimp only at hrx
    unfold tk
    split
    · rename_i hc
      exact (mv_ok (by omega) (by omega) (by omega) h1 (hv.v.r.all x hx) ((op_iff x).2 (.inl hc.1)) (by omega)).1
    · exact hv.v.r.all x hx
  · rw [List.pairwise_map]
    refine hv.v.r.dis.imp fun {x y} hd o1 o2 => ?_
    rw [(tk_a _ _ _).1, (tk_a _ _ _).1]
    exact hd (tk_op o1).2 (tk_op o2).2
  · obtain ⟨x, hx, rfl⟩ := List.mem_map.1 hy
    rw [(tk_a _ _ _).1]
    exact hv.v.u x hx
  · obtain ⟨x, hx, rfl⟩ := List.mem_map.1 hy
    have hrx := hv.now x hx
    dsimp only at hrx
    show (tk h (now + t) x).r ≤ now + t
    rw [(tk_a _ _ _).2]
    omega
end Go.Proofs.YtilneflfeegnfaaGreat.Cs
namespace Go.Proofs.YtilneflfeegnfaaGreat.Pb
open Go.RowKit
structure Pr where
  a : Int
  i : Int
  s : Int
  t : Int
  n : Int
deriving DecidableEq
def zr : Pr := ⟨0, 0, 0, 0, 0⟩
instance : Inhabited Pr := ⟨zr⟩
def prl (x : Pr) : List Value := [.int .u32 x.a, .int .i64 x.i, .int .i64 x.s, .int .i64 x.t, .int .i64 x.n]
def prv (x : Pr) : Value := .agg #[.int .u32 x.a, .int .i64 x.i, .int .i64 x.s, .int .i64 x.t, .int .i64 x.n]
def Prx (x : Pr) : Obj := .cells #[.int .u32 x.a, .int .i64 x.i, .int .i64 x.s, .int .i64 x.t, .int .i64 x.n] 97
def eP : El Pr := ⟨prl, 5, by decide, fun _ => rfl, by
  intro x u hu
  simp [prl] at hu
  rcases hu with rfl | rfl | rfl | rfl | rfl <;> rfl⟩
structure Pk where
  a : Bool
  f : Int
  t : Int
  m0 : Int
  m1 : Int
  m2 : Int
  m3 : Int
  m4 : Int
  m5 : Int
  i : Int
  s : Int
deriving DecidableEq
def zk : Pk := ⟨false, 0, 0, 0, 0, 0, 0, 0, 0, 0, 0⟩
def pkl (p : Pk) : List Value := [.bool p.a, .int .u32 p.f, .int .u32 p.t, .int .u8 p.m0, .int .u8 p.m1, .int .u8 p.m2, .int .u8 p.m3, .int .u8 p.m4, .int .u8 p.m5, .int .i64 p.i, .int .i64 p.s]
def pkv (p : Pk) : Value := .agg #[.bool p.a, .int .u32 p.f, .int .u32 p.t, .int .u8 p.m0, .int .u8 p.m1, .int .u8 p.m2, .int .u8 p.m3, .int .u8 p.m4, .int .u8 p.m5, .int .i64 p.i, .int .i64 p.s]
def Pkx (p : Pk) : Obj := .cells #[.bool p.a, .int .u32 p.f, .int .u32 p.t, .int .u8 p.m0, .int .u8 p.m1, .int .u8 p.m2, .int .u8 p.m3, .int .u8 p.m4, .int .u8 p.m5, .int .i64 p.i, .int .i64 p.s] 103
structure Ac where
  o : Int
  p : Int
  q : Int
  r : Int
def acl (x : Ac) : List Value := [.int .u8 x.o, .int .u8 x.p, .int .u16 x.q, .int .u8 x.r]
structure Ac.Ok (x : Ac) : Prop where
  o : 0 ≤ x.o ∧ x.o < 256
  p : 0 ≤ x.p ∧ x.p < 256
  q : 0 ≤ x.q ∧ x.q < 65536
  r : 0 ≤ x.r ∧ x.r < 256
theorem size37 : (Tryz.prog.info? 97).map (·.size) = some 5 := by kernel_rfl
theorem run_size37 (W : World) : (Go.sizeOf 97).run Tryz.prog W = .ok 5 W := by
  obtain ⟨i, hi, hs⟩ := Option.map_eq_some_iff.1 size37
  rw [← hs]
  simp [Go.sizeOf, typeInfo, hi]
theorem load37 {w : World} {y : Addr} {x : Pr} (h : ∀ j v, (prl x)[j]? = some v → w.cell? (y.add j) = some v) : (Instr.loadAt 97 (.pointer (some y))).run Tryz.prog w = .ok (.agg (prl x).toArray) w := by
  have hl' : (loadCells y 5).run Tryz.prog w = .ok (prl x).toArray w := run_loadCells_list (P := Tryz.prog) w y (prl x) h
  have hg : (isAgg 97).run Tryz.prog w = .ok true w := by
    unfold isAgg
    simp only [Sem.run_bind, run_underlying Tryz.underlying97, Result.andThen_ok, Sem.run_pure]
  simp only [Instr.loadAt, Instr.sureAddr, loadVar, Sem.run_bind, Sem.run_pure, Result.andThen_ok, hg, run_size37, hl', if_true]
theorem at_load37 {ops : Array Oper} {rest : List Oper} {op : Oper} {a : Act} {w : World} {Q : Exit → Act → World → Prop} (x : Operand) (hgd : op.guard = none) (ho : op.op = .load 97 x) (y : Addr) (z : Pr) (hx : a.eval x = .pointer (some y)) (hr : ∀ j v, (prl z)[j]? = some v → w.cell? (y.add j) = some v)
    (h : wpList Tryz.prog ops Q rest (a.put op.dst (.agg #[.int .u32 z.a, .int .i64 z.i, .int .i64 z.s, .int .i64 z.t, .int .i64 z.n])) w) : wpList Tryz.prog ops Q (op :: rest) a w :=
  wpList_plain hgd fun _ hK => by
    unfold Oper.wp execOp
    simp only [ho, hx, Sem.run_bind, Sem.run_pure, Result.andThen_ok, load37 hr]
    exact hK _ _ h
section
variable {ops : Array Oper} {rest : List Oper} {o : Oper} {a : Act} {C : World → Prop} {Q : Act → Prop}
theorem quiet_load37 (x : Operand) (y : Addr) (p : Pr) (hr : ∀ W, C W → ∀ j v, (prl p)[j]? = some v → W.cell? (y.add j) = some v) (hw : Region.wanted o (yielded ops a.tmps) = true) (ho : o.op = .load 97 x) (hx : a.eval x = .pointer (some y)) (h : wpQuiet Tryz.prog ops C Q rest (a.put o.dst (.agg #[.int .u32 p.a, .int .i64 p.i, .int .i64 p.s, .int .i64 p.t, .int .i64 p.n]))) : wpQuiet Tryz.prog ops C Q (o :: rest) a :=
  BigFrame.wpQuiet_want hw fun K hK => ⟨.agg #[.int .u32 p.a, .int .i64 p.i, .int .i64 p.s, .int .i64 p.t, .int .i64 p.n], fun W hC => by
    unfold Oper.quietAt execOp
    simp only [ho, hx, Sem.run_bind, Sem.run_pure, Result.andThen_ok, load37 (hr W hC)]
    exact ⟨rfl, rfl⟩, hK _ h⟩
end
theorem size44 : (Tryz.prog.info? 103).map (·.size) = some 11 := by kernel_rfl
def eqr (x y : Pr) : Bool := decide (x = y)
theorem run_eq37 (x y : Pr) (W : World) : (Op.equalIn 10000 97 (prv x) (prv y)).run Tryz.prog W = .ok (eqr x y) W := by
  obtain ⟨a, b, d, n, m⟩ := x
  obtain ⟨a2, b2, d2, n2, m2⟩ := y
  unfold prv eqr
  dsimp only
  rw [show (10000 : Nat) = 9999 + 1 from rfl, run_equalIn_struct W 9999 97 _ _ (by kernel_rfl) (by kernel_rfl)]
  by_cases h1 : a = a2
  · by_cases h2 : b = b2
    · by_cases h3 : d = d2
      · by_cases h4 : n = n2
        · by_cases h5 : m = m2
          · simp [go_sem, part, h1, h2, h3, h4, h5]
          · simp [go_sem, part, h1, h2, h3, h4, h5]
        · simp [go_sem, part, h1, h2, h3, h4]
      · simp [go_sem, part, h1, h2, h3]
    · simp [go_sem, part, h1, h2]
  · simp [go_sem, part, h1]
theorem run_eql37 (x y : Pr) (W : World) : (binOp .eql 97 (prv x) (prv y)).run Tryz.prog W = .ok (.bool (eqr x y)) W := by
  have := run_eql_struct (P := Tryz.prog) W 97 (prl x).toArray (prl y).toArray
  rw [show Value.agg (prl x).toArray = prv x from rfl, show Value.agg (prl y).toArray = prv y from rfl, run_eq37] at this
  exact this
theorem guard37 (op : BinOp) (p q : Operand) (x y : Pr) (W : World) : (eqGuard op 97 p q (prv x) (prv y)).run Tryz.prog W = .ok () W := run_eqGuard_agg W op 97 p q _ _ (by kernel_rfl)
section
variable {ops : Array Oper} {rest : List Oper} {o : Oper} {a : Act} {w : World} {Q : Exit → Act → World → Prop}
theorem at_load37g (x : Operand) (y : Addr) (z : Pr) (hw : Region.wanted o (yielded ops a.tmps) = true) (ho : o.op = .load 97 x) (hx : a.eval x = .pointer (some y)) (hr : ∀ j v, (prl z)[j]? = some v → w.cell? (y.add j) = some v)
    (h : wpList Tryz.prog ops Q rest (a.put o.dst (.agg #[.int .u32 z.a, .int .i64 z.i, .int .i64 z.s, .int .i64 z.t, .int .i64 z.n])) w) : wpList Tryz.prog ops Q (o :: rest) a w :=
  wpList_want hw fun _ hK => by
    unfold Oper.wp execOp
    simp only [ho, hx, Sem.run_bind, Sem.run_pure, Result.andThen_ok, load37 hr]
    exact hK _ _ h
end
end Go.Proofs.YtilneflfeegnfaaGreat.Pb
namespace Go.Proofs.YtilneflfeegnfaaGreat.Pb
open Go.RowKit
def zrv : Value := .agg #[.int .u32 0, .int .i64 0, .int .i64 0, .int .i64 0, .int .i64 0]
theorem info37 : (Tryz.prog.info? 97).map (fun i => (i.zero, i.size, i.bytes)) = some (some zrv, 5, 40) := by kernel_rfl
theorem tP : Ty eP 32 97 := ⟨Tryz.underlying32, by
  obtain ⟨i, hi, hz0, hz1, hz2⟩ := info_parts info37
  exact ⟨i, _, _, hi, hz0, hz1, hz2, rfl, by omega⟩⟩
section
variable {α : Type} {E : El α} {S T : TypeId} (D : Ty E S T)
include D
theorem wpList_append_rw (w : World) {ops : Array Oper} {rest : List Oper} {o : Oper} {a : Act} {Q : Exit → Act → World → Prop} (hgd : o.guard = none) (s x : Operand) (ho : o.op = .call { callee := .builtin .append, args := #[s, x], argTypes := #[S, S] })
    (base : Nat) (v : Value) (n : Nat) (xs : List α) (hs : a.eval s = v) (hown : w.ownsRow base T E.N v n (E.cs xs)) (A : Option Addr) (m c : Nat) (ys : List α) (hx : a.eval x = .slice A m c) (hm : m = ys.length) (hr : Rw E w A ys)
    (hlen : n + m ≤ 1000000000000) (hbase : base ≤ w.heap.size)
    (h : ∀ v' w', w'.ownsRow base T E.N v' (n + m) (E.cs (xs ++ ys)) → w.grownBy w' v.ownBlock → wpList Tryz.prog ops Q rest (a.put o.dst v') w') : wpList Tryz.prog ops Q (o :: rest) a w :=
  wpList_plain hgd fun _ hK => by
    obtain ⟨v', w', hrun, h2, h3⟩ := run_append_rw D w base o.type v n xs hown A m c ys hm hr hlen hbase
    unfold Oper.wp execOp
    simp only [ho, resolve, invoke, builtin, Sem.run_bind, Sem.run_pure, Result.andThen_ok, List.map_toArray, List.map_cons, List.map_nil, hs, hx, hrun]
    exact hK _ _ (h v' w' h2 h3)
end
set_option maxRecDepth 100000 in
set_option maxHeartbeats 2000000 in
theorem grow_any (n : Nat) (w : World) (hn : n ≤ 1000000) : Calls Tryz.prog 133 #[.slice none 0 0, .int .i64 (n : Int)] w (OwnPost eP 97 w []) := by
  by_cases h0 : n = 0
  · subst h0
    go_enter Tryz.func133, Tryz.ntmps133
    go_wp2_with fail
    go_ret
    exact ⟨_, rfl, World.ownsRow_nil _ _ _ _, Below.refl _ _⟩
  · have h1 : 0 < n := by omega
    have h1' : (0 : Int) < n := by omega
    clear h0
    go_enter Tryz.func133, Tryz.ntmps133
    go_wp2_with (at_builtin; refine wpList_zeros tP Tryz.underlying3 _ rfl (.tmp 20) (.tmp 21) rfl n (by simp [Act.eval, Act.put]) (by simp [Act.eval, Act.put]) h1 hn ?_)
    intro C cap hge hle hsz
    have HZ := Lib.hid hsz
    have HM := Lib.hid hle
    unfold maxLen at hle
    clear hsz
    go_wp2_with fail
    go_ret
    exact ⟨_, rfl, World.ownsRow_made (w.drew) C cap (Nat.le_refl _) HM.out HZ.out, (Below.refl _ w).drew.alloc (Nat.le_refl _) _⟩
set_option maxRecDepth 100000 in
set_option maxHeartbeats 4000000 in
theorem concat_any (ps : List (Pt Pr)) (b c : Nat) (w : World) (h : Pm eP w b ps) (hn : (cat ps ps.length).length ≤ 1000000) (hps : ps.length ≤ 10) :
    Calls Tryz.prog 113 #[.slice (some ⟨b, 0, none⟩) ps.length c] w (OwnPost eP 97 w (cat ps ps.length)) := by
  have HP := Lib.hid h
  have hb := h.1
  have HC := Lib.hid (cat_le ps)
  have HS := Lib.hid (fun (k : Nat) (p : Pt Pr) (h : ps[k]? = some p) => cat_snoc h)
  obtain ⟨L, hL⟩ : ∃ L, ps.length = L := ⟨_, rfl⟩
  have HL := Lib.hid hL
  rw [hL] at hn hps HC ⊢
  clear hL h
  go_enter Tryz.func113, Tryz.ntmps113
  go_wp2_with fail
  go_loop [3, 11] (fun s i => ∃ k : Nat, i = .int .i64 k ∧ k ≤ L ∧ s = .int .i64 ((cat ps k).length : Nat)) (fun _ i => L - (intOf i).toNat)
  case atStart => exact ⟨0, rfl, by omega, by rw [cat_zero]; rfl⟩
  case round =>
    obtain ⟨k, rfl, hk, rfl⟩ := hrel
    have hkc := HC.out k
    by_cases hlt : k < L
    · obtain ⟨p, hp⟩ : ∃ p, ps[k]? = some p := ⟨_, List.getElem?_eq_getElem (by rw [HL.out]; exact hlt)⟩
      have k0 := (HP.out.2 k p hp).1
      have hkc1 := HC.out (k + 1)
      have HK := Lib.hid (HS.out _ _ hp)
      rw [HK.out, List.length_append] at hkc1
      obtain ⟨A, xs, pc⟩ := p
      dsimp only at k0 hkc1 HK
      have HX := Lib.hid (show (cat ps (k + 1)).length = (cat ps k).length + xs.length by rw [HK.out, List.length_append])
      generalize (cat ps k).length = N at *
      clear hp
      go_wp2_with fail
      go_round
      case rel => exact ⟨k + 1, by go_num, by omega, by rw [HX.out]; go_num⟩
      case measure => simp [intOf]; omega
    · obtain rfl : k = L := by omega
      have HG := Lib.hid (grow_any (cat ps k).length w hn)
      obtain ⟨N, hN⟩ : ∃ N, (cat ps k).length = N := ⟨_, rfl⟩
      have HN := Lib.hid hN
      rw [hN] at HG hn HC ⊢
      clear hN hkc
      go_wp2_with fail
      refine HG.out.mono ?_
      rintro e w1 ⟨v1, rfl, ho, hb1⟩
      have O1 := Lib.hid ho
      have B1 := Lib.hid hb1
      clear ho hb1
      go_wp2_with fail
      go_loopw [6, 27] (fun v i wr => ∃ q : Nat, i = .int .i64 q ∧ q ≤ k ∧ Hid (wr.ownsRow w.heap.size 97 5 v (cat ps q).length (eP.cs (cat ps q)) ∧ Below w.heap.size w wr)) (fun _ i _ => k - (intOf i).toNat)
      case atStart => exact ⟨0, rfl, by omega, Lib.hid ⟨by rw [cat_zero]; exact O1.out, B1.out⟩⟩
      case round =>
        obtain ⟨q, rfl, hq, HR⟩ := hrel
        by_cases hlt : q < k
        · obtain ⟨p, hp⟩ : ∃ p, ps[q]? = some p := ⟨_, List.getElem?_eq_getElem (by rw [HL.out]; exact hlt)⟩
          obtain ⟨k0, kH⟩ := HP.out.2 q p hp
          have k1 : wr.cell? ⟨b, q, none⟩ = some (.slice p.A p.xs.length p.c) := by rw [HR.out.2.cell (p := ⟨b, q, none⟩) hb]; exact k0
          have kH1 := kH.below HR.out.2
          have hkc1 := HC.out (q + 1)
          have HK := Lib.hid (HS.out _ _ hp)
          rw [HK.out, List.length_append] at hkc1
          have hlen : (cat ps q).length + p.xs.length ≤ 1000000000000 := by omega
          obtain ⟨A, xs, pc⟩ := p
          dsimp only at k1 kH1 hkc1 HK hlen
          have hbase : w.heap.size ≤ wr.heap.size := HR.out.2.size
          have ho := HR.out.1
          have HH := Lib.hid kH1
          clear hp k0 kH kH1
          go_wp2_with (at_builtin; refine wpList_append_rw tP _ rfl (.tmp 31) (.tmp 32) rfl w.heap.size _ _ _ (by simp [Act.eval, Act.put]) ho A xs.length pc xs (by simp [Act.eval, Act.put]) rfl HH.out hlen hbase ?_)
          intro v2 w2 ho2 hg2
          have O2 := Lib.hid ho2
          have B2 := Lib.hid (HR.out.2.grown hg2 hbase (fun j hj => (ho.lt j hj).1))
          clear ho2 hg2 ho
          go_wp2_with fail
          go_roundw
          case rel => exact ⟨q + 1, by go_num, by omega, Lib.hid ⟨by rw [HK.out, List.length_append]; exact O2.out, B2.out⟩⟩
          case measure => simp [intOf]; omega
        · obtain rfl : q = k := by omega
          go_wp2_with fail
          go_ret
          exact ⟨_, rfl, HR.out.1, HR.out.2⟩
end Go.Proofs.YtilneflfeegnfaaGreat.Pb
namespace Go.Proofs.YtilneflfeegnfaaGreat.Pb
open Go.RowKit
theorem idOf_any (a : Int) (w : World) : Calls Tryz.prog 123 #[.int .u32 a] w fun e w' => e = .returned (.int .i64 (a % 65536)) ∧ w = w' := by
  have h : wrap64 (IntKind.u16.wrap a) = a % 65536 := by rw [IntKind.wrap_u16]; unfold wrap64; omega
  go_enter Tryz.func123, Tryz.ntmps123
  go_wp2
  go_ret
  exact ⟨ret_int h, rfl⟩
end Go.Proofs.YtilneflfeegnfaaGreat.Pb
