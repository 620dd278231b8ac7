/-
  A prefix is put behind a row of the call's own. No condition but that the row is short.
-/
import Derived.Test.YtbfkpapankgndaaSem
import Derived.Maps.AppendAt
import Derived.OwnWalkIn
import Derived.Deep.MidRow
namespace Go.Proofs.Ytbfkpapankgndaa
open Go.RowKit

def pc (y : Int × Int) : List Value := [.int .u32 y.1, .int .i64 y.2]
def pf (ys : List (Int × Int)) : List Value := ys.flatMap pc
theorem pf_length (ys : List (Int × Int)) : (pf ys).length = ys.length * 2 := by
  induction ys with
  | nil => rfl
  | cons y ys ih => simp only [pf, List.flatMap_cons, List.length_append] at ih ⊢; rw [ih]; simp [pc]; omega
theorem pf_snoc (ys : List (Int × Int)) (y : Int × Int) : pf (ys ++ [y]) = pf ys ++ pc y := by simp [pf]
theorem pf_get : ∀ (ys : List (Int × Int)) (i j : Nat) (y : Int × Int), ys[i]? = some y → j < 2 → (pf ys)[i * 2 + j]? = (pc y)[j]?
  | [], i, j, y, h, _ => by simp at h
  | z :: ys, 0, j, y, h, hj => by
    obtain rfl : z = y := by simpa using h
    rw [pf, List.flatMap_cons, Nat.zero_mul, Nat.zero_add, List.getElem?_append_left (by simp [pc]; exact hj)]
  | z :: ys, i + 1, j, y, h, hj => by
    have := pf_get ys i j y (by simpa using h) hj
    rw [pf, List.flatMap_cons, List.getElem?_append_right (by simp [pc]; omega)]
    rw [show (i + 1) * 2 + j - (pc z).length = i * 2 + j by simp [pc]; omega]
    exact this
theorem info32 : (Try.prog.info? 32).map (fun i => (i.zero, i.size, i.bytes)) = some (some (.agg #[.int .u32 0, .int .i64 0]), 2, 16) := by kernel_rfl

/-- One more prefix behind a row of the call's own. -/
theorem run_app32 (w : World) (base : Nat) (ty : TypeId) (v : Value) (ys : List (Int × Int)) (hown : w.ownsRow base 32 2 v ys.length (pf ys)) (b c : Nat) (y : Int × Int) (hb : w.heap[b]? = some (cs2 y)) (hl : ys.length < 1000000) (hbase : base ≤ w.heap.size) :
    ∃ g cap w', (Builtin.append_ #[28, 28] ty #[v, .slice (some ⟨b, 0, none⟩) 1 c]).run Try.prog w = .ok (.slice (some ⟨g, 0, none⟩) (ys.length + 1) cap) w' ∧
      w'.ownsRow base 32 2 (.slice (some ⟨g, 0, none⟩) (ys.length + 1) cap) (ys.length + 1) (pf (ys ++ [y])) ∧ w.grownBy w' v.ownBlock ∧ (v.ownBlock = some g ∨ g = w.heap.size) ∧ g < w'.heap.size ∧ base ≤ g := by
  obtain ⟨i, hii, hz0, hz1, hz2⟩ := info_parts info32
  obtain ⟨v', w', hrun, h2, h3, _, h5⟩ := run_append_own_at (P := Try.prog) w base 28 ty 32 i (.agg #[.int .u32 0, .int .i64 0]) 2 16 Try.underlying28 hii hz0 hz1 hz2 rfl (by omega) v ys.length (pf ys) hown ⟨b, 0, none⟩ 1 c (pc y) rfl (fun j x hx => by
    rw [Addr.add_mid]
    obtain ⟨c0, c1, _, _⟩ := cells_2 hb
    match j with
    | 0 => simp [pc] at hx; subst hx; exact c0
    | 1 => simp [pc] at hx; subst hx; exact c1
    | j + 2 => simp [pc] at hx) (by simp [pc, Value.oneCell']) (by unfold maxLen; omega) (by omega) hbase
  rw [← pf_snoc] at h2
  rcases h2.2 with ⟨rfl, h0⟩ | ⟨g, cap, cur, rfl, hg, hh, _⟩
  · omega
  · refine ⟨g, cap, w', hrun, h2, h3, ?_, (Array.getElem?_eq_some_iff.1 hh).1, hg⟩
    rcases h5 with h5 | h5
    · exact .inl (by rw [← h5]; rfl)
    · exact .inr (by simpa [Value.ownBlock] using h5)

theorem wpList_app32 (w : World) {ops : Array Oper} {rest : List Oper} {o : Oper} {a : Act} {Q : Exit → Act → World → Prop} (hgd : o.guard = none) (s x : Operand) (ho : o.op = .call { callee := .builtin .append, args := #[s, x], argTypes := #[28, 28] })
    (base : Nat) (v : Value) (ys : List (Int × Int)) (hs : a.eval s = v) (hown : w.ownsRow base 32 2 v ys.length (pf ys)) (b c : Nat) (y : Int × Int) (hx : a.eval x = .slice (some ⟨b, 0, none⟩) 1 c) (hb : w.heap[b]? = some (cs2 y)) (hl : ys.length < 1000000) (hbase : base ≤ w.heap.size)
    (h : ∀ g cap w', w'.ownsRow base 32 2 (.slice (some ⟨g, 0, none⟩) (ys.length + 1) cap) (ys.length + 1) (pf (ys ++ [y])) → w.grownBy w' v.ownBlock → (v.ownBlock = some g ∨ g = w.heap.size) → g < w'.heap.size → base ≤ g → wpList Try.prog ops Q rest (a.put o.dst (.slice (some ⟨g, 0, none⟩) (ys.length + 1) cap)) w') : wpList Try.prog ops Q (o :: rest) a w :=
  wpList_plain hgd fun _ hK => by
    obtain ⟨g, cap, w', hrun, h2, h3, h4, h5, h6⟩ := run_app32 w base o.type v ys hown b c y hb hl hbase
    unfold Oper.wp execOp
    simp only [ho, resolve, invoke, builtin, Sem.run_bind, Sem.run_pure, Result.andThen_ok, List.map_toArray, List.map_cons, List.map_nil, hs, hx, hrun]
    exact hK _ _ (h g cap w' h2 h3 h4 h5 h6)
theorem wpListIn_app32 {F : Fence} {n : Nat} (w : World) {ops : Array Oper} {rest : List Oper} {o : Oper} {a : Act} {Q : Exit → Act → World → Prop} (hgd : o.guard = none) (s x : Operand) (ho : o.op = .call { callee := .builtin .append, args := #[s, x], argTypes := #[28, 28] })
    (base : Nat) (v : Value) (ys : List (Int × Int)) (hs : a.eval s = v) (hown : w.ownsRow base 32 2 v ys.length (pf ys)) (b c : Nat) (y : Int × Int) (hx : a.eval x = .slice (some ⟨b, 0, none⟩) 1 c) (hb : w.heap[b]? = some (cs2 y)) (hl : ys.length < 1000000) (hbase : base ≤ w.heap.size)
    (h : ∀ g cap w', w'.ownsRow base 32 2 (.slice (some ⟨g, 0, none⟩) (ys.length + 1) cap) (ys.length + 1) (pf (ys ++ [y])) → w.grownBy w' v.ownBlock → (v.ownBlock = some g ∨ g = w.heap.size) → g < w'.heap.size → base ≤ g → wpListIn F n Try.prog ops Q rest (a.put o.dst (.slice (some ⟨g, 0, none⟩) (ys.length + 1) cap)) w') : wpListIn F n Try.prog ops Q (o :: rest) a w := by
  refine wpListIn_plain hgd fun K hK' => ?_
  obtain ⟨g, cap, w', hrun, h2, h3, h4, h5, h6⟩ := run_app32 w base o.type v ys hown b c y hb hl hbase
  unfold Oper.wpIn
  refine ⟨?_, ?_⟩
  · simp [Oper.about, ho, resolve, Target.leads, Sem.run_pure]
  · rw [Oper.semAt_plain F _ _ (by rw [ho]; intro c hc'; cases hc')]
    simp [execOp, ho, resolve, invoke, builtin, hs, hx, hrun, Result.andThen]
    exact hK' _ _ (h g cap w' h2 h3 h4 h5 h6)
/-- A prefix of the row. -/
theorem own_cell {w : World} {base : Nat} {v : Value} {ys : List (Int × Int)} (hown : w.ownsRow base 32 2 v ys.length (pf ys)) {i : Nat} {y : Int × Int} (hi : ys[i]? = some y) :
    ∃ g cap, v = .slice (some ⟨g, 0, none⟩) ys.length cap ∧ base ≤ g ∧ w.cell? ⟨g, i * 2, none⟩ = some (.int .u32 y.1) ∧ w.cell? ⟨g, i * 2 + 1, none⟩ = some (.int .i64 y.2) := by
  have hlt : i < ys.length := (List.getElem?_eq_some_iff.1 hi).1
  rcases hown.2 with ⟨_, h0⟩ | ⟨g, cap, cur, hv, hg, hh, hc, _, hs, ht⟩
  · omega
  · refine ⟨g, cap, hv, hg, ?_, ?_⟩
    · rw [cell_of_row w g (i * 2) cur 32 (0, 0) hh, ← Array.getElem?_toList]
      have h1 := pf_get ys i 0 y hi (by omega)
      rw [Nat.add_zero, ← ht, List.getElem?_take, if_pos (by omega)] at h1
      rw [h1]; rfl
    · rw [cell_of_row w g (i * 2 + 1) cur 32 (0, 0) hh, ← Array.getElem?_toList]
      have h1 := pf_get ys i 1 y hi (by omega)
      rw [← ht, List.getElem?_take, if_pos (by omega)] at h1
      rw [h1]; rfl
end Go.Proofs.Ytbfkpapankgndaa
