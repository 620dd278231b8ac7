/-
  Rows of bytes that can be read (Rd), the contract of sum.Check, and append onto a row of the call's own. Conditions: numbers have their bits, and a row has at most 2^47 bytes.
-/
import Derived.Test.YtjkfgdeiciligaaAny
import Derived.Test.YtjkfgdeiciligaaMath
import Derived.OwnWalk
import Derived.Deep.RegionLaw
namespace Go.Proofs.Ytjkfgdeiciligaa
open Go.RowKit

theorem shifted_any (n : Nat) (w : World) (h : n < 4294967296) : Calls Try.prog 48 #[.int .u32 n] w fun e w' => e = .returned (.int .u32 (sts 8 n : Nat)) ∧ w = w' := by
  go_enter Try.func48, Try.ntmps48
  go_wp2
  go_loop [0, 4] (fun r i => ∃ k : Nat, k ≤ 8 ∧ i = .int .i64 k ∧ r = .int .u32 (sts k n : Nat)) (fun _ i => 8 - (intOf i).toNat)
  case atStart => exact ⟨0, by omega, rfl, rfl⟩
  case round =>
    obtain ⟨k, hk, rfl, rfl⟩ := hrel
    have HR := Lib.hid (show sts (k + 1) n = st (sts k n) from rfl)
    have hr := sts_lt k h
    by_cases hlt : k < 8
    · generalize sts k n = r at HR hr
      by_cases hb : r % 2 = 1
      · have E : bits .and .u32 (r : Int) 1 = 1 := by rw [show (1 : Int) = ((1 : Nat) : Int) from rfl, u32_and_nat r 1 (by omega) (by omega), nat_mask1, hb]
        have X := Lib.hid (show bits .xor .u32 ((r : Int) / 2) 2197175160 = ((st r : Nat) : Int) by rw [st, if_pos hb]; exact u32_xor_nat (r / 2) 2197175160 (by omega) (by omega))
        clear hb
        go_wp2
        go_round
        case rel => exact ⟨k + 1, by omega, by go_num, by rw [HR.out, X.out]⟩
        case measure => simp [intOf]; omega
      · have E : bits .and .u32 (r : Int) 1 = 0 := by rw [show (1 : Int) = ((1 : Nat) : Int) from rfl, u32_and_nat r 1 (by omega) (by omega), nat_mask1, show r % 2 = 0 by omega]; rfl
        have X := Lib.hid (show (r : Int) / 2 = ((st r : Nat) : Int) by rw [st, if_neg hb]; rfl)
        clear hb
        go_wp2
        go_round
        case rel => exact ⟨k + 1, by omega, by go_num, by rw [HR.out, X.out]⟩
        case measure => simp [intOf]; omega
    · obtain rfl : k = 8 := by omega
      go_wp2
      go_ret
      exact ⟨rfl, rfl⟩

/-- The bytes that a slice's value has, wherever they lie. -/
def Rd (w : World) (A : Option Addr) (zs : List Nat) : Prop :=
  zs.length ≤ 140737488355328 ∧ Bs zs ∧ ∀ k, k < zs.length → ∃ x, A = some x ∧ w.cell? (x.add k) = some (.int .u8 ((zs.getD k 0 : Nat) : Int))

theorem add_succ (x : Addr) (k : Nat) : x.add (k + 1) = { block := x.block, off := x.off + (k + 1) } := by simp [Addr.add]
theorem getD_past {zs : List Nat} {k : Nat} (h : zs.length ≤ k) : zs.getD k 0 = 0 := by rw [List.getD_eq_getElem?_getD, List.getElem?_eq_none h]; rfl

theorem check_any (A : Option Addr) (zs : List Nat) (c : Nat) (w : World) (h : Rd w A zs) :
    Calls Try.prog 39 #[.slice A zs.length c] w fun e w' => e = .returned (.int .u32 (chk zs : Nat)) ∧ w = w' := by
  obtain ⟨hl, hb, hc⟩ := h
  have HB := Lib.hid hb
  have HC := Lib.hid hc
  clear hb hc
  have C := Lib.hid fun n W h => shifted_any n W h
  go_enter Try.func39, Try.ntmps39
  go_wp2
  go_loop [3, 8] (fun r i => ∃ k : Nat, k ≤ zs.length ∧ i = .int .i64 k ∧ r = .int .u32 (reg zs k : Nat)) (fun _ i => zs.length - (intOf i).toNat)
  case atStart => exact ⟨0, by omega, rfl, rfl⟩
  case round =>
    obtain ⟨k, hk, rfl, rfl⟩ := hrel
    have hr := reg_lt HB.out k
    by_cases hlt : k < zs.length
    · obtain ⟨x, rfl, h1⟩ := HC.out k hlt
      have b1 := HB.out k
      have HR := Lib.hid (show reg zs (k + 1) = sts 8 (reg zs k ^^^ zs.getD k 0) from rfl)
      have X : bits .xor .u32 (reg zs k : Int) (zs.getD k 0 : Int) = ((reg zs k ^^^ zs.getD k 0 : Nat) : Int) := u32_xor_nat _ _ hr (by omega)
      have hx := xor_lt hr (show zs.getD k 0 < 4294967296 by omega)
      generalize zs.getD k 0 = a at *
      generalize reg zs k = r at *
      go_wp2_with fail
      refine (C.out _ _ hx).mono ?_
      rintro e w1 ⟨rfl, rfl⟩
      go_wp2_with fail
      go_round
      case rel => exact ⟨k + 1, by omega, by go_num, by rw [HR.out]⟩
      case measure => simp [intOf]; omega
    · obtain rfl : k = zs.length := by omega
      have X := Lib.hid (show bits .xor .u32 IntKind.u32.max (reg zs zs.length : Int) = ((chk zs : Nat) : Int) by
        rw [chk, Nat.xor_comm]; exact u32_xor_nat 4294967295 _ (by omega) hr)
      go_wp2
      go_ret
      exact ⟨ret_int X.out, rfl⟩

/-- The cells of bytes. -/
def cel (zs : List Nat) : List Value := zs.map fun z : Nat => Value.int .u8 (z : Int)
theorem cel_length (zs : List Nat) : (cel zs).length = zs.length := by unfold cel; simp
theorem cel_at {zs : List Nat} {k : Nat} (h : k < zs.length) : (cel zs)[k]? = some (.int .u8 ((zs.getD k 0 : Nat) : Int)) := by
  unfold cel
  rw [List.getElem?_map, List.getD_eq_getElem?_getD, List.getElem?_eq_getElem h]
  rfl
/-- What lies whole in a block can be read. -/
theorem Rd.block {w : World} {g : Nat} {cs : Array Value} {t : TypeId} {fr : Nat × Nat} {zs : List Nat} (h : w.heap[g]? = some (.cells cs t fr)) (hc : cs.toList = cel zs) (hb : Bs zs) (hn : zs.length ≤ 140737488355328) : Rd w (some ⟨g, 0, none⟩) zs := by
  refine ⟨hn, hb, fun k hk => ⟨_, rfl, ?_⟩⟩
  have e : (⟨g, 0, none⟩ : Addr).add k = ⟨g, k, none⟩ := by unfold Addr.add; split <;> simp_all
  rw [e, ← cel_at hk, ← hc]
  simp [World.cell?, h]
/-- What is owned can be read. -/
theorem Rd.own {w : World} {base : Nat} {e : TypeId} {A : Option Addr} {n c : Nat} {zs : List Nat} (h : w.ownsRow base e 1 (.slice A n c) n (cel zs)) (hb : Bs zs) (hn : zs.length ≤ 140737488355328) : n = zs.length ∧ Rd w A zs := by
  have hl : n = zs.length := by have := h.1; rw [cel_length] at this; omega
  refine ⟨hl, hn, hb, fun k hk => ?_⟩
  obtain ⟨g, cap, hv, _, hlt⟩ := h.form (by omega)
  have hA : A = some ⟨g, 0, none⟩ := by injection hv
  subst hA
  exact ⟨_, rfl, h.cells (g := g) rfl k _ (cel_at hk)⟩

theorem info5 : (Try.prog.info? 5).map (fun i => (i.zero, i.size, i.bytes)) = some (some (.int .u8 0), 1, 1) := by kernel_rfl
theorem cel_one (zs : List Nat) : ∀ u ∈ cel zs, u.oneCell' = true := by
  intro u hu
  unfold cel at hu
  obtain ⟨z, _, rfl⟩ := List.mem_map.1 hu
  rfl
theorem cel_set (zs : List Nat) (k v : Nat) : cel (zs.set k v) = (cel zs).set k (.int .u8 (v : Int)) := by unfold cel; exact List.map_set
theorem getD_set {zs : List Nat} {k v : Nat} (h : k < zs.length) (i : Nat) : (zs.set k v).getD i 0 = if i = k then v else zs.getD i 0 := by
  rw [List.getD_eq_getElem?_getD, List.getElem?_set]
  by_cases hi : i = k
  · subst hi
    simp [h]
  · rw [if_neg (fun e => hi e.symm), if_neg hi, List.getD_eq_getElem?_getD]
theorem Bs.set {zs : List Nat} (hb : Bs zs) {k v : Nat} (h : k < zs.length) (hv : v < 256) : Bs (zs.set k v) := by
  intro i
  rw [getD_set h]
  split
  · exact hv
  · exact hb i
/-- The cells that a row's reading gives, as an append wants them. -/
theorem Rd.cells {w : World} {x : Addr} {zs : List Nat} (h : Rd w (some x) zs) : ∀ j u, (cel zs)[j]? = some u → w.cell? (x.add j) = some u := by
  intro j u hj
  have hl : j < zs.length := by
    have := (List.getElem?_eq_some_iff.1 hj).1
    rw [cel_length] at this
    exact this
  obtain ⟨y, hy, hc⟩ := h.2.2 j hl
  injection hy with hy
  subst hy
  rw [cel_at hl] at hj
  injection hj with hj
  rw [hc, hj]
theorem Rd.below {w w' : World} {A : Option Addr} {zs : List Nat} (h : Rd w A zs) (hb : Below w.heap.size w w') : Rd w' A zs := by
  refine ⟨h.1, h.2.1, fun k hk => ?_⟩
  obtain ⟨x, hx, hc⟩ := h.2.2 k hk
  exact ⟨x, hx, (hb.cell (World.block_lt_of_cell? _ _ hc)).trans hc⟩
theorem cel_append (xs ys : List Nat) : cel (xs ++ ys) = cel xs ++ cel ys := by unfold cel; exact List.map_append
theorem getD_take {zs : List Nat} {m i : Nat} (h : i < m) : (zs.take m).getD i 0 = zs.getD i 0 := by
  rw [List.getD_eq_getElem?_getD, List.getElem?_take, if_pos h, List.getD_eq_getElem?_getD]
theorem getD_left {xs ys : List Nat} {i : Nat} (h : i < xs.length) : (xs ++ ys).getD i 0 = xs.getD i 0 := by
  rw [List.getD_eq_getElem?_getD, List.getElem?_append_left h, List.getD_eq_getElem?_getD]
theorem getD_right {xs ys : List Nat} {i : Nat} (h : xs.length ≤ i) : (xs ++ ys).getD i 0 = ys.getD (i - xs.length) 0 := by
  rw [List.getD_eq_getElem?_getD, List.getElem?_append_right h, List.getD_eq_getElem?_getD]
theorem Bs.take {zs : List Nat} (h : Bs zs) (m : Nat) : Bs (zs.take m) := by
  intro i
  rcases Nat.lt_or_ge i m with hi | hi
  · rw [getD_take hi]; exact h i
  · rw [getD_past (by rw [List.length_take]; omega)]; omega
theorem Bs.append {xs ys : List Nat} (h : Bs xs) (g : Bs ys) : Bs (xs ++ ys) := by
  intro i
  rcases Nat.lt_or_ge i xs.length with hi | hi
  · rw [getD_left hi]; exact h i
  · rw [getD_right hi]; exact g _
theorem Bs.two {a b : Nat} (ha : a < 256) (hb : b < 256) : Bs [a, b] := by
  intro i
  match i with
  | 0 => exact ha
  | 1 => exact hb
  | i + 2 => simp
theorem Rd.take {w : World} {A : Option Addr} {zs : List Nat} (h : Rd w A zs) (m : Nat) : Rd w A (zs.take m) := by
  refine ⟨by have := h.1; rw [List.length_take]; omega, h.2.1.take m, fun k hk => ?_⟩
  rw [List.length_take] at hk
  obtain ⟨x, hx, hc⟩ := h.2.2 k (by omega)
  exact ⟨x, hx, by rw [getD_take (by omega)]; exact hc⟩

/-- Nothing appended: nothing done. -/
theorem run_append_no (w : World) (base : Nat) (ty : TypeId) (v : Value) (n c : Nat) (xs : List Value) (hown : w.ownsRow base 5 1 v n xs) : (Builtin.append_ #[33, 33] ty #[v, .slice none 0 c]).run Try.prog w = .ok v w := by
  obtain ⟨i, hi, _⟩ := info_parts info5
  rcases hown.2 with ⟨rfl, rfl⟩ | ⟨g, cap, cur, rfl, _, _, hle, _⟩
  · simp [Builtin.append_, run_underlying Try.underlying33, sizeOf, typeInfo, hi, Builtin.lenOf, Builtin.firstCells]
  · simp [Builtin.append_, run_underlying Try.underlying33, sizeOf, typeInfo, hi, Builtin.lenOf, Builtin.firstCells, hle, storeCells]

theorem run_append_rd (w : World) (base : Nat) (ty : TypeId) (v : Value) (n : Nat) (xs : List Nat) (hown : w.ownsRow base 5 1 v n (cel xs)) (A : Option Addr) (m c : Nat) (ys : List Nat) (hm : m = ys.length) (hr : Rd w A ys)
    (hpos : 0 < n + m) (hlen : n + m ≤ 140737488355328) (hbase : base ≤ w.heap.size) :
    ∃ g cap w', (Builtin.append_ #[33, 33] ty #[v, .slice A m c]).run Try.prog w = .ok (.slice (some ⟨g, 0, none⟩) (n + m) cap) w' ∧
      w'.ownsRow base 5 1 (.slice (some ⟨g, 0, none⟩) (n + m) cap) (n + m) (cel (xs ++ ys)) ∧ w.grownBy w' v.ownBlock ∧ (v.ownBlock = some g ∨ g = w.heap.size) ∧ g < w'.heap.size := by
  subst hm
  have key : ∃ v' w', (Builtin.append_ #[33, 33] ty #[v, .slice A ys.length c]).run Try.prog w = .ok v' w' ∧ w'.ownsRow base 5 1 v' (n + ys.length) (cel xs ++ cel ys) ∧ w.grownBy w' v.ownBlock ∧ (v'.ownBlock = v.ownBlock ∨ v'.ownBlock = some w.heap.size) := by
    rcases A with _ | x
    · have hz : ys = [] := by
        rcases Nat.eq_zero_or_pos ys.length with h0 | h0
        · exact List.eq_nil_of_length_eq_zero h0
        · obtain ⟨x, hx, _⟩ := hr.2.2 0 h0
          cases hx
      subst hz
      refine ⟨v, w, run_append_no w base ty v n c _ hown, ?_, ⟨rfl, rfl, rfl, Nat.le_refl _, fun _ _ _ => rfl⟩, .inl rfl⟩
      simpa [cel] using hown
    · obtain ⟨i, hi, hz0, hz1, hz2⟩ := info_parts info5
      obtain ⟨v', w', hrun, h2, h3, _, h5⟩ := run_append_own_at (P := Try.prog) w base 33 ty 5 i (.int .u8 0) 1 1 Try.underlying33 hi hz0 hz1 hz2 rfl (by omega) v n (cel xs) hown x ys.length c (cel ys) (by rw [cel_length]; omega) hr.cells (cel_one ys) (by unfold maxLen; omega) (by omega) hbase
      exact ⟨v', w', hrun, h2, h3, h5⟩
  obtain ⟨v', w', hrun, h2, h3, h5⟩ := key
  obtain ⟨g, cap, rfl, _, hlt⟩ := h2.form hpos
  rw [← cel_append] at h2
  refine ⟨g, cap, w', hrun, h2, h3, ?_, hlt⟩
  rcases h5 with h5 | h5
  · exact .inl (by rw [← h5]; rfl)
  · exact .inr (by simpa [Value.ownBlock] using h5)

theorem wp_append_rd (w : World) {o : Oper} {a : Act} {K : Act → World → Prop} {Q : Exit → Act → World → Prop} (s x : Operand) (ho : o.op = .call { callee := .builtin .append, args := #[s, x], argTypes := #[33, 33] })
    (base : Nat) (v : Value) (n : Nat) (xs : List Nat) (hs : a.eval s = v) (hown : w.ownsRow base 5 1 v n (cel xs)) (A : Option Addr) (m c : Nat) (ys : List Nat) (hx : a.eval x = .slice A m c) (hm : m = ys.length) (hr : Rd w A ys)
    (hpos : 0 < n + m) (hlen : n + m ≤ 140737488355328) (hbase : base ≤ w.heap.size)
    (h : ∀ g cap w', w'.ownsRow base 5 1 (.slice (some ⟨g, 0, none⟩) (n + m) cap) (n + m) (cel (xs ++ ys)) → w.grownBy w' v.ownBlock → (v.ownBlock = some g ∨ g = w.heap.size) → g < w'.heap.size → K (a.put o.dst (.slice (some ⟨g, 0, none⟩) (n + m) cap)) w') : o.wp Try.prog a w K Q := by
  obtain ⟨g, cap, w', hrun, h2, h3, h4, h5⟩ := run_append_rd w base o.type v n xs hown A m c ys hm hr hpos hlen hbase
  unfold Oper.wp execOp
  simp only [ho, resolve, invoke, builtin, Sem.run_bind, Sem.run_pure, Result.andThen_ok, List.map_toArray, List.map_cons, List.map_nil, hs, hx, hrun]
  exact h g cap w' h2 h3 h4 h5

theorem wpList_append_rd (w : World) {ops : Array Oper} {rest : List Oper} {o : Oper} {a : Act} {Q : Exit → Act → World → Prop} (hgd : o.guard = none) (s x : Operand) (ho : o.op = .call { callee := .builtin .append, args := #[s, x], argTypes := #[33, 33] })
    (base : Nat) (v : Value) (n : Nat) (xs : List Nat) (hs : a.eval s = v) (hown : w.ownsRow base 5 1 v n (cel xs)) (A : Option Addr) (m c : Nat) (ys : List Nat) (hx : a.eval x = .slice A m c) (hm : m = ys.length) (hr : Rd w A ys)
    (hpos : 0 < n + m) (hlen : n + m ≤ 140737488355328) (hbase : base ≤ w.heap.size)
    (h : ∀ g cap w', w'.ownsRow base 5 1 (.slice (some ⟨g, 0, none⟩) (n + m) cap) (n + m) (cel (xs ++ ys)) → w.grownBy w' v.ownBlock → (v.ownBlock = some g ∨ g = w.heap.size) → g < w'.heap.size → wpList Try.prog ops Q rest (a.put o.dst (.slice (some ⟨g, 0, none⟩) (n + m) cap)) w') : wpList Try.prog ops Q (o :: rest) a w :=
  wpList_plain hgd fun _ hK => wp_append_rd w s x ho base v n xs hs hown A m c ys hx hm hr hpos hlen hbase fun g cap w' h2 h3 h4 h5 => hK _ _ (h g cap w' h2 h3 h4 h5)

theorem step_append_rd (w : World) {ops : Array Oper} {o : Oper} {a : Act} {K : Act → World → Prop} {Q : Exit → Act → World → Prop} {E : Prop} (hgd : o.guard = none) (s x : Operand) (ho : o.op = .call { callee := .builtin .append, args := #[s, x], argTypes := #[33, 33] })
    (base : Nat) (v : Value) (n : Nat) (xs : List Nat) (hs : a.eval s = v) (hown : w.ownsRow base 5 1 v n (cel xs)) (A : Option Addr) (m c : Nat) (ys : List Nat) (hx : a.eval x = .slice A m c) (hm : m = ys.length) (hr : Rd w A ys)
    (hpos : 0 < n + m) (hlen : n + m ≤ 140737488355328) (hbase : base ≤ w.heap.size)
    (h : ∀ g cap w', w'.ownsRow base 5 1 (.slice (some ⟨g, 0, none⟩) (n + m) cap) (n + m) (cel (xs ++ ys)) → w.grownBy w' v.ownBlock → (v.ownBlock = some g ∨ g = w.heap.size) → g < w'.heap.size → K (a.put o.dst (.slice (some ⟨g, 0, none⟩) (n + m) cap)) w') :
    if Region.wanted o (yielded ops a.tmps) = true then Oper.wp Try.prog o a w K Q else E := by
  have hw : Region.wanted o (yielded ops a.tmps) = true := by simp [Region.wanted, hgd]
  rw [if_pos hw]
  exact wp_append_rd w s x ho base v n xs hs hown A m c ys hx hm hr hpos hlen hbase h

/-- A row appended to nil, inside a region that draws its order. -/
theorem step_append_new (w : World) {ops : Array Oper} {o : Oper} {a : Act} {K : Act → World → Prop} {Q : Exit → Act → World → Prop} {E : Prop} (hgd : o.guard = none) (s x : Operand) (ho : o.op = .call { callee := .builtin .append, args := #[s, x], argTypes := #[33, 33] })
    (base : Nat) (hs : a.eval s = .slice none 0 0) (A : Option Addr) (m c : Nat) (ys : List Nat) (hx : a.eval x = .slice A m c) (hm : m = ys.length) (hr : Rd w A ys)
    (hpos : 0 < m) (hlen : m ≤ 140737488355328) (hbase : base ≤ w.heap.size)
    (h : ∀ g cap w', w'.ownsRow base 5 1 (.slice (some ⟨g, 0, none⟩) m cap) m (cel ys) → w.grownBy w' none → g = w.heap.size → g < w'.heap.size → K (a.put o.dst (.slice (some ⟨g, 0, none⟩) m cap)) w') :
    if Region.wanted o (yielded ops a.tmps) = true then Oper.wp Try.prog o a w K Q else E := by
  refine step_append_rd w hgd s x ho base _ 0 [] hs (World.ownsRow_nil _ _ _ _) A m c ys hx hm hr (by omega) (by omega) hbase ?_
  intro g cap w' h1 h2 h3 h4
  simp only [Nat.zero_add, List.nil_append] at h1 ⊢
  exact h g cap w' h1 h2 (h3.resolve_left (by simp [Value.ownBlock])) h4
/-- What was read stays so where the one row that may have been written is another. -/
theorem Rd.grown {w w' : World} {A : Option Addr} {zs : List Nat} {row : Option Nat} (h : Rd w A zs) (hg : w.grownBy w' row) (hne : ∀ x, A = some x → some x.block ≠ row) : Rd w' A zs := by
  refine ⟨h.1, h.2.1, fun k hk => ?_⟩
  obtain ⟨x, hx, hc⟩ := h.2.2 k hk
  refine ⟨x, hx, hg.cell hc ?_⟩
  rw [show (x.add k).block = x.block by unfold Addr.add; split <;> rfl]
  exact hne x hx
/-- Two bytes in a block of their own. -/
theorem Rd.two (w : World) {a b : Nat} (ha : a < 256) (hb : b < 256) : Rd (w.alloc (.cells #[.int .u8 (a : Int), .int .u8 (b : Int)] 5)) (some ⟨w.heap.size, 0, none⟩) [a, b] :=
  Rd.block (heap_alloc_new w _) rfl (Bs.two ha hb) (by simp)
theorem own_two (w : World) (base : Nat) (hb : base ≤ w.heap.size) (a b : Nat) : (w.alloc (.cells #[.int .u8 (a : Int), .int .u8 (b : Int)] 5)).ownsRow base 5 1 (.slice (some ⟨w.heap.size, 0, none⟩) 2 2) 2 (cel [a, b]) :=
  World.ownsRow_lit w _ 2 hb (by unfold maxLen; omega) rfl
theorem own_one (w : World) (base : Nat) (hb : base ≤ w.heap.size) (a : Nat) : (w.alloc (.cells #[.int .u8 (a : Int)] 5)).ownsRow base 5 1 (.slice (some ⟨w.heap.size, 0, none⟩) 1 1) 1 (cel [a]) :=
  World.ownsRow_lit w _ 1 hb (by unfold maxLen; omega) rfl
theorem Bs.one {a : Nat} (ha : a < 256) : Bs [a] := by
  intro i
  match i with
  | 0 => exact ha
  | i + 1 => simp
theorem Rd.one (w : World) {a : Nat} (ha : a < 256) : Rd (w.alloc (.cells #[.int .u8 (a : Int)] 5)) (some ⟨w.heap.size, 0, none⟩) [a] :=
  Rd.block (heap_alloc_new w _) rfl (Bs.one ha) (by simp)

theorem getD_drop (zs : List Nat) (k i : Nat) : (zs.drop k).getD i 0 = zs.getD (k + i) 0 := by
  rw [List.getD_eq_getElem?_getD, List.getElem?_drop, List.getD_eq_getElem?_getD]
theorem Rd.drop {w : World} {g : Nat} {zs : List Nat} (h : Rd w (some ⟨g, 0, none⟩) zs) {k cap : Nat} (hc : zs.length ≤ cap) : Rd w (if cap = k then some ⟨g, 0, none⟩ else some ⟨g, k, none⟩) (zs.drop k) := by
  refine ⟨by have := h.1; rw [List.length_drop]; omega, fun i => by rw [getD_drop]; exact h.2.1 _, fun i hi => ?_⟩
  rw [List.length_drop] at hi
  rw [if_neg (by omega)]
  obtain ⟨x, hx, hcell⟩ := h.2.2 (k + i) (by omega)
  injection hx with hx
  subst hx
  refine ⟨_, rfl, ?_⟩
  rw [getD_drop, ← hcell]
  congr 1
  unfold Addr.add
  split <;> split <;> simp_all <;> omega

end Go.Proofs.Ytjkfgdeiciligaa
