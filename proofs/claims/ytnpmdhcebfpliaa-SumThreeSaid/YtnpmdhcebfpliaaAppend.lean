/-
  Appending a row of bytes, nil or not, to one of the call's own: what becomes of it, at a plain place and inside a region that draws its order. Conditions: the row that comes of it is not empty, and has at most 2^47 bytes.
-/
import Derived.Test.YtnpmdhcebfpliaaOneWalk
import Derived.Deep.RegionLaw
namespace Go.Proofs.Ytnpmdhcebfpliaa
open Go.ChangeShapes Go.WideShapes Go.ChangeAt Go.RowKit

theorem cap_bytes {H : Type} {enc : TypeId × Value → H} {W : World} {a : Option Addr} {len cap : Nat} {d : DataW H} {p : List MemPlace}
    (h : DataW.Trod enc Try.prog W 0 (fun _ => true) true 22 (.slice a len cap) d p) : len ≤ cap := by
  obtain ⟨fuel, hf⟩ := h
  rcases open_ints Try.underlying22 Try.underlying5 (by kernel_rfl) hf with ⟨hcs, _⟩ | ⟨x, l, c, zs, hcs, _, hl, hm, hz, hx, hcell, hwz⟩
  · simp [Value.cells] at hcs
    obtain ⟨rfl, rfl, rfl⟩ := hcs
    exact Nat.le_refl _
  · simp [Value.cells] at hcs
    obtain ⟨rfl, rfl, rfl⟩ := hcs
    exact hl

theorem cel_append (xs ys : List Nat) : cel (xs ++ ys) = cel xs ++ cel ys := by unfold cel; exact List.map_append
theorem getD_take {zs : List Nat} {m i : Nat} (h : i < m) : (zs.take m).getD i 0 = zs.getD i 0 := by
  rw [List.getD_eq_getElem?_getD, List.getElem?_take, if_pos h, List.getD_eq_getElem?_getD]
theorem getD_left {xs ys : List Nat} {i : Nat} (h : i < xs.length) : (xs ++ ys).getD i 0 = xs.getD i 0 := by
  rw [List.getD_eq_getElem?_getD, List.getElem?_append_left h, List.getD_eq_getElem?_getD]
theorem getD_right {xs ys : List Nat} {i : Nat} (h : xs.length ≤ i) : (xs ++ ys).getD i 0 = ys.getD (i - xs.length) 0 := by
  rw [List.getD_eq_getElem?_getD, List.getElem?_append_right h, List.getD_eq_getElem?_getD]
theorem Bs.take {zs : List Nat} (h : Bs zs) (m : Nat) : Bs (zs.take m) := by
  intro i
  rcases Nat.lt_or_ge i m with hi | hi
  · rw [getD_take hi]; exact h i
  · rw [getD_past (by rw [List.length_take]; omega)]; omega
theorem Bs.append {xs ys : List Nat} (h : Bs xs) (g : Bs ys) : Bs (xs ++ ys) := by
  intro i
  rcases Nat.lt_or_ge i xs.length with hi | hi
  · rw [getD_left hi]; exact h i
  · rw [getD_right hi]; exact g _
theorem Bs.two {a b : Nat} (ha : a < 256) (hb : b < 256) : Bs [a, b] := by
  intro i
  match i with
  | 0 => exact ha
  | 1 => exact hb
  | i + 2 => simp
theorem Rd.take {w : World} {A : Option Addr} {zs : List Nat} (h : Rd w A zs) (m : Nat) : Rd w A (zs.take m) := by
  refine ⟨by have := h.1; rw [List.length_take]; omega, h.2.1.take m, fun k hk => ?_⟩
  rw [List.length_take] at hk
  obtain ⟨x, hx, hc⟩ := h.2.2 k (by omega)
  exact ⟨x, hx, by rw [getD_take (by omega)]; exact hc⟩

/-- Nothing appended: nothing done. -/
theorem run_append_no (w : World) (base : Nat) (ty : TypeId) (v : Value) (n c : Nat) (xs : List Value) (hown : w.ownsRow base 5 1 v n xs) : (Builtin.append_ #[22, 22] ty #[v, .slice none 0 c]).run Try.prog w = .ok v w := by
  obtain ⟨i, hi, _⟩ := info_parts info5
  rcases hown.2 with ⟨rfl, rfl⟩ | ⟨g, cap, cur, rfl, _, _, hle, _⟩
  · simp [Builtin.append_, run_underlying Try.underlying22, sizeOf, typeInfo, hi, Builtin.lenOf, Builtin.firstCells]
  · simp [Builtin.append_, run_underlying Try.underlying22, sizeOf, typeInfo, hi, Builtin.lenOf, Builtin.firstCells, hle, storeCells]

theorem run_append_rd (w : World) (base : Nat) (ty : TypeId) (v : Value) (n : Nat) (xs : List Nat) (hown : w.ownsRow base 5 1 v n (cel xs)) (A : Option Addr) (m c : Nat) (ys : List Nat) (hm : m = ys.length) (hr : Rd w A ys)
    (hpos : 0 < n + m) (hlen : n + m ≤ 140737488355328) (hbase : base ≤ w.heap.size) :
    ∃ g cap w', (Builtin.append_ #[22, 22] ty #[v, .slice A m c]).run Try.prog w = .ok (.slice (some ⟨g, 0, none⟩) (n + m) cap) w' ∧
      w'.ownsRow base 5 1 (.slice (some ⟨g, 0, none⟩) (n + m) cap) (n + m) (cel (xs ++ ys)) ∧ w.grownBy w' v.ownBlock ∧ (v.ownBlock = some g ∨ g = w.heap.size) ∧ g < w'.heap.size := by
  subst hm
  have key : ∃ v' w', (Builtin.append_ #[22, 22] ty #[v, .slice A ys.length c]).run Try.prog w = .ok v' w' ∧ w'.ownsRow base 5 1 v' (n + ys.length) (cel xs ++ cel ys) ∧ w.grownBy w' v.ownBlock ∧ (v'.ownBlock = v.ownBlock ∨ v'.ownBlock = some w.heap.size) := by
    rcases A with _ | x
    · have hz : ys = [] := by
        rcases Nat.eq_zero_or_pos ys.length with h0 | h0
        · exact List.eq_nil_of_length_eq_zero h0
        · obtain ⟨x, hx, _⟩ := hr.2.2 0 h0
          cases hx
      subst hz
      refine ⟨v, w, run_append_no w base ty v n c _ hown, ?_, ⟨rfl, rfl, rfl, Nat.le_refl _, fun _ _ _ => rfl⟩, .inl rfl⟩
      simpa [cel] using hown
    · obtain ⟨i, hi, hz0, hz1, hz2⟩ := info_parts info5
      obtain ⟨v', w', hrun, h2, h3, _, h5⟩ := run_append_own_at (P := Try.prog) w base 22 ty 5 i (.int .u8 0) 1 1 Try.underlying22 hi hz0 hz1 hz2 rfl (by omega) v n (cel xs) hown x ys.length c (cel ys) (by rw [cel_length]; omega) hr.cells (cel_one ys) (by unfold maxLen; omega) (by omega) hbase
      exact ⟨v', w', hrun, h2, h3, h5⟩
  obtain ⟨v', w', hrun, h2, h3, h5⟩ := key
  obtain ⟨g, cap, rfl, _, hlt⟩ := h2.form hpos
  rw [← cel_append] at h2
  refine ⟨g, cap, w', hrun, h2, h3, ?_, hlt⟩
  rcases h5 with h5 | h5
  · exact .inl (by rw [← h5]; rfl)
  · exact .inr (by simpa [Value.ownBlock] using h5)

theorem wp_append_rd (w : World) {o : Oper} {a : Act} {K : Act → World → Prop} {Q : Exit → Act → World → Prop} (s x : Operand) (ho : o.op = .call { callee := .builtin .append, args := #[s, x], argTypes := #[22, 22] })
    (base : Nat) (v : Value) (n : Nat) (xs : List Nat) (hs : a.eval s = v) (hown : w.ownsRow base 5 1 v n (cel xs)) (A : Option Addr) (m c : Nat) (ys : List Nat) (hx : a.eval x = .slice A m c) (hm : m = ys.length) (hr : Rd w A ys)
    (hpos : 0 < n + m) (hlen : n + m ≤ 140737488355328) (hbase : base ≤ w.heap.size)
    (h : ∀ g cap w', w'.ownsRow base 5 1 (.slice (some ⟨g, 0, none⟩) (n + m) cap) (n + m) (cel (xs ++ ys)) → w.grownBy w' v.ownBlock → (v.ownBlock = some g ∨ g = w.heap.size) → g < w'.heap.size → K (a.put o.dst (.slice (some ⟨g, 0, none⟩) (n + m) cap)) w') : o.wp Try.prog a w K Q := by
  obtain ⟨g, cap, w', hrun, h2, h3, h4, h5⟩ := run_append_rd w base o.type v n xs hown A m c ys hm hr hpos hlen hbase
  unfold Oper.wp execOp
  simp only [ho, resolve, invoke, builtin, Sem.run_bind, Sem.run_pure, Result.andThen_ok, List.map_toArray, List.map_cons, List.map_nil, hs, hx, hrun]
  exact h g cap w' h2 h3 h4 h5

theorem wpList_append_rd (w : World) {ops : Array Oper} {rest : List Oper} {o : Oper} {a : Act} {Q : Exit → Act → World → Prop} (hgd : o.guard = none) (s x : Operand) (ho : o.op = .call { callee := .builtin .append, args := #[s, x], argTypes := #[22, 22] })
    (base : Nat) (v : Value) (n : Nat) (xs : List Nat) (hs : a.eval s = v) (hown : w.ownsRow base 5 1 v n (cel xs)) (A : Option Addr) (m c : Nat) (ys : List Nat) (hx : a.eval x = .slice A m c) (hm : m = ys.length) (hr : Rd w A ys)
    (hpos : 0 < n + m) (hlen : n + m ≤ 140737488355328) (hbase : base ≤ w.heap.size)
    (h : ∀ g cap w', w'.ownsRow base 5 1 (.slice (some ⟨g, 0, none⟩) (n + m) cap) (n + m) (cel (xs ++ ys)) → w.grownBy w' v.ownBlock → (v.ownBlock = some g ∨ g = w.heap.size) → g < w'.heap.size → wpList Try.prog ops Q rest (a.put o.dst (.slice (some ⟨g, 0, none⟩) (n + m) cap)) w') : wpList Try.prog ops Q (o :: rest) a w :=
  wpList_plain hgd fun _ hK => wp_append_rd w s x ho base v n xs hs hown A m c ys hx hm hr hpos hlen hbase fun g cap w' h2 h3 h4 h5 => hK _ _ (h g cap w' h2 h3 h4 h5)

theorem step_append_rd (w : World) {ops : Array Oper} {o : Oper} {a : Act} {K : Act → World → Prop} {Q : Exit → Act → World → Prop} {E : Prop} (hgd : o.guard = none) (s x : Operand) (ho : o.op = .call { callee := .builtin .append, args := #[s, x], argTypes := #[22, 22] })
    (base : Nat) (v : Value) (n : Nat) (xs : List Nat) (hs : a.eval s = v) (hown : w.ownsRow base 5 1 v n (cel xs)) (A : Option Addr) (m c : Nat) (ys : List Nat) (hx : a.eval x = .slice A m c) (hm : m = ys.length) (hr : Rd w A ys)
    (hpos : 0 < n + m) (hlen : n + m ≤ 140737488355328) (hbase : base ≤ w.heap.size)
    (h : ∀ g cap w', w'.ownsRow base 5 1 (.slice (some ⟨g, 0, none⟩) (n + m) cap) (n + m) (cel (xs ++ ys)) → w.grownBy w' v.ownBlock → (v.ownBlock = some g ∨ g = w.heap.size) → g < w'.heap.size → K (a.put o.dst (.slice (some ⟨g, 0, none⟩) (n + m) cap)) w') :
    if Region.wanted o (yielded ops a.tmps) = true then Oper.wp Try.prog o a w K Q else E := by
  have hw : Region.wanted o (yielded ops a.tmps) = true := by simp [Region.wanted, hgd]
  rw [if_pos hw]
  exact wp_append_rd w s x ho base v n xs hs hown A m c ys hx hm hr hpos hlen hbase h

/-- A row appended to nil, inside a region that draws its order. -/
theorem step_append_new (w : World) {ops : Array Oper} {o : Oper} {a : Act} {K : Act → World → Prop} {Q : Exit → Act → World → Prop} {E : Prop} (hgd : o.guard = none) (s x : Operand) (ho : o.op = .call { callee := .builtin .append, args := #[s, x], argTypes := #[22, 22] })
    (base : Nat) (hs : a.eval s = .slice none 0 0) (A : Option Addr) (m c : Nat) (ys : List Nat) (hx : a.eval x = .slice A m c) (hm : m = ys.length) (hr : Rd w A ys)
    (hpos : 0 < m) (hlen : m ≤ 140737488355328) (hbase : base ≤ w.heap.size)
    (h : ∀ g cap w', w'.ownsRow base 5 1 (.slice (some ⟨g, 0, none⟩) m cap) m (cel ys) → w.grownBy w' none → g = w.heap.size → g < w'.heap.size → K (a.put o.dst (.slice (some ⟨g, 0, none⟩) m cap)) w') :
    if Region.wanted o (yielded ops a.tmps) = true then Oper.wp Try.prog o a w K Q else E := by
  refine step_append_rd w hgd s x ho base _ 0 [] hs (World.ownsRow_nil _ _ _ _) A m c ys hx hm hr (by omega) (by omega) hbase ?_
  intro g cap w' h1 h2 h3 h4
  simp only [Nat.zero_add, List.nil_append] at h1 ⊢
  exact h g cap w' h1 h2 (h3.resolve_left (by simp [Value.ownBlock])) h4
/-- What was read stays so where the one row that may have been written is another. -/
theorem Rd.grown {w w' : World} {A : Option Addr} {zs : List Nat} {row : Option Nat} (h : Rd w A zs) (hg : w.grownBy w' row) (hne : ∀ x, A = some x → some x.block ≠ row) : Rd w' A zs := by
  refine ⟨h.1, h.2.1, fun k hk => ?_⟩
  obtain ⟨x, hx, hc⟩ := h.2.2 k hk
  refine ⟨x, hx, hg.cell hc ?_⟩
  rw [show (x.add k).block = x.block by unfold Addr.add; split <;> rfl]
  exact hne x hx
/-- Two bytes in a block of their own. -/
theorem Rd.two (w : World) {a b : Nat} (ha : a < 256) (hb : b < 256) : Rd (w.alloc (.cells #[.int .u8 (a : Int), .int .u8 (b : Int)] 5)) (some ⟨w.heap.size, 0, none⟩) [a, b] :=
  Rd.block (heap_alloc_new w _) rfl (Bs.two ha hb) (by simp)
theorem own_two (w : World) (base : Nat) (hb : base ≤ w.heap.size) (a b : Nat) : (w.alloc (.cells #[.int .u8 (a : Int), .int .u8 (b : Int)] 5)).ownsRow base 5 1 (.slice (some ⟨w.heap.size, 0, none⟩) 2 2) 2 (cel [a, b]) :=
  World.ownsRow_lit w _ 2 hb (by unfold maxLen; omega) rfl
end Go.Proofs.Ytnpmdhcebfpliaa
