/-
  Cases, deeds and nine bytes in a variable of one's own; cells of a row's elements. Conditions: bytes are bytes.
-/
import Derived.Test.YtmaaniokfpkbjaaClk
set_option linter.unusedSimpArgs false
set_option linter.unusedVariables false
namespace Go.Proofs.Ytmaaniokfpkbjaa
open Go.RowKit

/-- A variable of one's own that may be written. -/
def Qb (w : World) (b : Nat) (x : Ca) : Prop := w.rangeAt b 0 (cal x) ∧ w.there b 0 4
theorem Qb.key {w : World} {b : Nat} {x : Ca} (h : Qb w b x) : ∀ j v, (cal x)[j]? = some v → w.cell? ⟨b, j, none⟩ = some v := fun j v hv => by
  have := h.1 j v hv
  rwa [Nat.zero_add] at this
theorem Qb.at {w : World} {b : Nat} {x : Ca} (h : Qb w b x) : ∀ j v, (cal x)[j]? = some v → w.cell? ((⟨b, 0, none⟩ : Addr).add j) = some v := fun j v hv => by
  rw [Addr.add_mid, Nat.zero_add]
  exact h.key j v hv
theorem Qb.lt {w : World} {b : Nat} {x : Ca} (h : Qb w b x) : b < w.heap.size := World.block_lt_of_cell? _ _ (h.key 0 _ rfl)
theorem cal_one (x : Ca) : (cal x).toArray.all (·.oneCell') = true := by simp [cal, Value.oneCell']
theorem five {k : Nat} (h : k < 4) : k = 0 ∨ k = 1 ∨ k = 2 ∨ k = 3 := by omega
theorem qb_box (w : World) (x : Ca) : Qb (w.alloc (Cax x)) w.heap.size x := by
  have h : (w.alloc (Cax x)).heap[w.heap.size]? = some (Cax x) := heap_alloc_new w _
  have e : ∀ j, (w.alloc (Cax x)).cell? ⟨w.heap.size, j, none⟩ = _ := fun j => cell_of_row _ _ _ _ _ _ h
  refine ⟨fun j v hv => ?_, fun j hj => ⟨?_, ?_⟩⟩
  · rw [e, Nat.zero_add, ← hv]
    simp [cal]
  · rw [e, Nat.zero_add]
    rcases five hj with rfl | rfl | rfl | rfl <;> rfl
  · unfold World.frozen?
    rw [h]
    simp [Cax]
theorem Qb.keep {w w' : World} {b B : Nat} {x : Ca} (h : Qb w b x) (hb : Below B w w') (hB : b < B) : Qb w' b x :=
  ⟨fun j v hv => by rw [hb.cell (p := ⟨b, 0 + j, none⟩) hB]; exact h.1 j v hv, fun j hj => ⟨by rw [hb.cell (p := ⟨b, 0 + j, none⟩) hB]; exact (h.2 j hj).1, by rw [hb.frozen (p := ⟨b, 0 + j, none⟩) hB]; exact (h.2 j hj).2⟩⟩
theorem Qb.below {w w' : World} {b : Nat} {x : Ca} (h : Qb w b x) (hb : Below w.heap.size w w') : Qb w' b x := h.keep hb h.lt
theorem Qb.drewN {w : World} {b : Nat} {x : Ca} (h : Qb w b x) (n : Nat) : Qb (w.drewN n) b x := h.below (bdrewN (Below.refl _ _) n)
theorem Qb.put {w : World} {b : Nat} {x : Ca} (h : Qb w b x) (y : Ca) : Qb (w.setCells b 0 (cal y)) b y :=
  ⟨World.rangeAt_setCells_same w b 0 (cal y) h.2, World.there_setCells h.2 b 0 (cal y)⟩
theorem loadv37 {w : World} {b : Nat} {x : Ca} (h : Qb w b x) : (loadVar 37 ⟨b, 0, none⟩).run Try.prog w = .ok (cav x) w := run_loadVar_mid w b 0 37 (cal x) _ h.1 Try.underlying37 rfl size37
theorem cells_of37 (b : Nat) : ∀ (us : List Value) (o : Nat) (w : World) (k : Nat), k ≠ b → (w.setCells b o us).heap[k]? = w.heap[k]?
  | [], _, _, _, _ => rfl
  | u :: r, o, w, k, h => (cells_of37 b r (o + 1) _ k h).trans (heap_setCell_other w ⟨b, o, none⟩ k u h)
theorem at_store37 {ops : Array Oper} {rest : List Oper} {o : Oper} {a : Act} {w : World} {Q : Exit → Act → World → Prop} (x y : Operand) (b : Nat) (p q : Ca) (H : Qb w b p) (hgd : o.guard = none) (ho : o.op = .store 37 x y) (hx : a.eval x = .pointer (some ⟨b, 0, none⟩)) (hy : a.eval y = cav q)
    (h : ∀ w', Hid (Qb w' b q) → Hid (∀ B, B ≤ b → Below B w w') → Hid (∀ k, k ≠ b → w'.heap[k]? = w.heap[k]?) → wpList Try.prog ops Q rest (a.put o.dst undef) w') : wpList Try.prog ops Q (o :: rest) a w :=
  wpList_store_mid hgd 37 x y ho b 0 (cal q).toArray hx hy H.2 size37 (cal_one q) (h _ (H.put q) (fun _ hB => below_put hB _ _ _ (Below.refl _ _)) (cells_of37 b _ _ _))

theorem Qb.c {w : World} {b : Nat} {x : Ca} (h : Qb w b x) : w.cell? ⟨b, 0, none⟩ = some (.int .u32 x.a) ∧ w.cell? ⟨b, 1, none⟩ = some (.int .i64 x.r) ∧ w.cell? ⟨b, 2, none⟩ = some (.int .i64 x.d) ∧ w.cell? ⟨b, 3, none⟩ = some (.int .i64 x.g) := ⟨h.key 0 _ rfl, h.key 1 _ rfl, h.key 2 _ rfl, h.key 3 _ rfl⟩
theorem ca_box (w : World) (x : Ca) : (w.alloc (Cax x)).cell? ⟨w.heap.size, 0, none⟩ = some (.int .u32 x.a) ∧ (w.alloc (Cax x)).cell? ⟨w.heap.size, 1, none⟩ = some (.int .i64 x.r) ∧ (w.alloc (Cax x)).cell? ⟨w.heap.size, 2, none⟩ = some (.int .i64 x.d) ∧ (w.alloc (Cax x)).cell? ⟨w.heap.size, 3, none⟩ = some (.int .i64 x.g) := (qb_box w x).c
theorem ac_box (w : World) (x : Ac) : (w.alloc (Acx x)).cell? ⟨w.heap.size, 0, none⟩ = some (.int .u8 x.o) ∧ (w.alloc (Acx x)).cell? ⟨w.heap.size, 1, none⟩ = some (.int .u8 x.p) ∧ (w.alloc (Acx x)).cell? ⟨w.heap.size, 2, none⟩ = some (.int .u8 x.n) := by
  simp [Acx]
/-- A deed in a variable. -/
def Am (W : World) (b : Nat) (x : Ac) : Prop := ∀ j v, (acl x)[j]? = some v → W.cell? ((⟨b, 0, none⟩ : Addr).add j) = some v
theorem am_box (w : World) (x : Ac) : Am (w.alloc (Acx x)) w.heap.size x := by
  intro j v hv
  rw [Addr.add_mid, Nat.zero_add]
  match j, hv with
  | 0, hv => simp [acl] at hv; subst hv; simp [Acx]
  | 1, hv => simp [acl] at hv; subst hv; simp [Acx]
  | 2, hv => simp [acl] at hv; subst hv; simp [Acx]
  | j + 3, hv => simp [acl] at hv
theorem Am.c {W : World} {b : Nat} {x : Ac} (h : Am W b x) : W.cell? ⟨b, 0, none⟩ = some (.int .u8 x.o) ∧ W.cell? ⟨b, 1, none⟩ = some (.int .u8 x.p) ∧ W.cell? ⟨b, 2, none⟩ = some (.int .u8 x.n) := by
  have h0 := h 0 _ rfl
  have h1 := h 1 _ rfl
  have h2 := h 2 _ rfl
  rw [Addr.add_mid] at h0 h1 h2
  exact ⟨h0, h1, h2⟩
theorem Am.lt {W : World} {b : Nat} {x : Ac} (h : Am W b x) : b < W.heap.size := World.block_lt_of_cell? _ _ h.c.1
theorem Am.below {W W' : World} {b : Nat} {x : Ac} (h : Am W b x) (hb : Below W.heap.size W W') : Am W' b x := fun j v hv => by
  rw [hb.cell (by rw [add_block]; exact h.lt)]
  exact h j v hv
theorem size23 : (Try.prog.info? 23).map (·.size) = some 9 := by kernel_rfl
theorem run_size23 (W : World) : (Go.sizeOf 23).run Try.prog W = .ok 9 W := by
  obtain ⟨i, hi, hs⟩ := Option.map_eq_some_iff.1 size23
  rw [← hs]
  simp [Go.sizeOf, typeInfo, hi]
theorem load23 {w : World} {y : Addr} {x : Hc} (h : ∀ j v, (hl x)[j]? = some v → w.cell? (y.add j) = some v) : (Instr.loadAt 23 (.pointer (some y))).run Try.prog w = .ok (.agg (hl x).toArray) w := by
  have hl' : (loadCells y 9).run Try.prog w = .ok (hl x).toArray w := run_loadCells_list (P := Try.prog) w y (hl x) h
  have hg : (isAgg 23).run Try.prog w = .ok true w := by
    unfold isAgg
    simp only [Sem.run_bind, run_underlying Try.underlying23, Result.andThen_ok, Sem.run_pure]
  simp only [Instr.loadAt, Instr.sureAddr, loadVar, Sem.run_bind, Sem.run_pure, Result.andThen_ok, hg, run_size23, hl', if_true]
theorem at_load23 {ops : Array Oper} {rest : List Oper} {op : Oper} {a : Act} {w : World} {Q : Exit → Act → World → Prop} (x : Operand) (hgd : op.guard = none) (ho : op.op = .load 23 x) (y : Addr) (z : Hc) (hx : a.eval x = .pointer (some y)) (hr : ∀ j v, (hl z)[j]? = some v → w.cell? (y.add j) = some v)
    (h : wpList Try.prog ops Q rest (a.put op.dst (.agg #[.int .u8 z.a, .int .u8 z.b, .int .u8 z.c, .int .u8 z.d, .int .u8 z.e, .int .u8 z.f, .int .u8 z.g, .int .u8 z.h, .int .u8 z.i])) w) : wpList Try.prog ops Q (op :: rest) a w :=
  wpList_plain hgd fun _ hK => by
    unfold Oper.wp execOp
    simp only [ho, hx, Sem.run_bind, Sem.run_pure, Result.andThen_ok, load23 hr]
    exact hK _ _ h
section
variable {ops : Array Oper} {rest : List Oper} {o : Oper} {a : Act} {C : World → Prop} {Q : Act → Prop}
theorem quiet_load23 (x : Operand) (y : Addr) (p : Hc) (hr : ∀ W, C W → ∀ j v, (hl p)[j]? = some v → W.cell? (y.add j) = some v) (hw : Region.wanted o (yielded ops a.tmps) = true) (ho : o.op = .load 23 x) (hx : a.eval x = .pointer (some y)) (h : wpQuiet Try.prog ops C Q rest (a.put o.dst (.agg #[.int .u8 p.a, .int .u8 p.b, .int .u8 p.c, .int .u8 p.d, .int .u8 p.e, .int .u8 p.f, .int .u8 p.g, .int .u8 p.h, .int .u8 p.i]))) : wpQuiet Try.prog ops C Q (o :: rest) a :=
  BigFrame.wpQuiet_want hw fun K hK => ⟨.agg #[.int .u8 p.a, .int .u8 p.b, .int .u8 p.c, .int .u8 p.d, .int .u8 p.e, .int .u8 p.f, .int .u8 p.g, .int .u8 p.h, .int .u8 p.i], fun W hC => by
    unfold Oper.quietAt execOp
    simp only [ho, hx, Sem.run_bind, Sem.run_pure, Result.andThen_ok, load23 (hr W hC)]
    exact ⟨rfl, rfl⟩, hK _ h⟩
end

theorem hc_box (w : World) (x : Hc) : ∀ j v, (hl x)[j]? = some v → (w.alloc (Hcx x)).cell? ((⟨w.heap.size, 0, none⟩ : Addr).add j) = some v := by
  intro j v hv
  rw [Addr.add_mid, Nat.zero_add]
  match j, hv with
  | 0, hv => simp [hl] at hv; subst hv; simp [Hcx]
  | 1, hv => simp [hl] at hv; subst hv; simp [Hcx]
  | 2, hv => simp [hl] at hv; subst hv; simp [Hcx]
  | 3, hv => simp [hl] at hv; subst hv; simp [Hcx]
  | 4, hv => simp [hl] at hv; subst hv; simp [Hcx]
  | 5, hv => simp [hl] at hv; subst hv; simp [Hcx]
  | 6, hv => simp [hl] at hv; subst hv; simp [Hcx]
  | 7, hv => simp [hl] at hv; subst hv; simp [Hcx]
  | 8, hv => simp [hl] at hv; subst hv; simp [Hcx]
  | j + 9, hv => simp [hl] at hv
theorem rw_lt {α : Type} {E : El α} {w : World} {A : Option Addr} {xs : List α} (h : Rw E w A xs) : ∀ y, A = some y → 0 < xs.length → y.block < w.heap.size := fun y hy hp => by
  obtain ⟨y', hy', hc⟩ := h.2 0 xs[0] (List.getElem?_eq_getElem hp)
  rw [hy] at hy'
  obtain rfl := Option.some.inj hy'
  have hN := E.pos
  have hl := E.len xs[0]
  have hv : (E.cl xs[0])[0]? = some (E.cl xs[0])[0] := List.getElem?_eq_getElem (by omega)
  have := World.block_lt_of_cell? _ _ (hc 0 _ hv)
  rwa [add_block] at this
theorem Rw.grownN {α : Type} {E : El α} {w w' : World} {A : Option Addr} {xs : List α} {g B : Nat} (h : Rw E w A xs) (hg : w.grownBy w' (some g)) (hb : ∀ y, A = some y → 0 < xs.length → y.block < B) (hB : B ≤ g) : Rw E w' A xs := by
  rcases Nat.eq_zero_or_pos xs.length with h0 | h0
  · rw [List.eq_nil_of_length_eq_zero h0]
    exact Rw.nil _ _
  · refine h.grown hg fun y hy e => ?_
    injection e with e
    have := hb y hy h0
    omega
/-- Nine bytes that lie there. -/
def Hm (W : World) (b : Nat) (x : Hc) : Prop := ∀ j v, (hl x)[j]? = some v → W.cell? ((⟨b, 0, none⟩ : Addr).add j) = some v
theorem Hm.lt {W : World} {b : Nat} {x : Hc} (h : Hm W b x) : b < W.heap.size := by
  have := World.block_lt_of_cell? _ _ (h 0 _ rfl)
  rwa [add_block] at this
theorem Hm.below {W W' : World} {b : Nat} {x : Hc} (h : Hm W b x) (hb : Below W.heap.size W W') : Hm W' b x := fun j v hv => by
  rw [hb.cell (by rw [add_block]; exact h.lt)]
  exact h j v hv

theorem rw_c0 {w : World} {y : Addr} {xs : List Ca} (R : Rw eA w (some y) xs) {k : Nat} {x : Ca} (hx : xs[k]? = some x) : w.cell? (y.add (k * 4)) = some (.int .u32 x.a) ∧ w.cell? (y.add (k * 4 + 1)) = some (.int .i64 x.r) ∧ w.cell? (y.add (k * 4 + 2)) = some (.int .i64 x.d) ∧ w.cell? (y.add (k * 4 + 3)) = some (.int .i64 x.g) := by
  obtain ⟨y', hy, hc⟩ := R.2 k x hx
  injection hy with hy
  subst hy
  exact ⟨hc 0 _ rfl, hc 1 _ rfl, hc 2 _ rfl, hc 3 _ rfl⟩
theorem rw_f {w : World} {y : Addr} {xs : List Ca} (R : Rw eA w (some y) xs) {k : Nat} {x : Ca} (hx : xs[k]? = some x) : w.cell? ⟨(y.add (k * 4)).block, (y.add (k * 4)).off + 1, none⟩ = some (.int .i64 x.r) ∧ w.cell? ⟨(y.add (k * 4)).block, (y.add (k * 4)).off + 2, none⟩ = some (.int .i64 x.d) ∧ w.cell? ⟨(y.add (k * 4)).block, (y.add (k * 4)).off + 3, none⟩ = some (.int .i64 x.g) := by
  obtain ⟨-, h1, h2, h3⟩ := rw_c0 R hx
  have e : ∀ j, 0 < j → (⟨(y.add (k * 4)).block, (y.add (k * 4)).off + j, none⟩ : Addr) = y.add (k * 4 + j) := fun j hj => by
    rw [← Addr.add_add]
    generalize y.add (k * 4) = z
    unfold Addr.add
    rw [if_neg (by omega)]
  rw [e 1 (by omega), e 2 (by omega), e 3 (by omega)]; exact ⟨h1, h2, h3⟩
theorem at_of_lt {xs : List Ca} {k : Nat} (h : k < xs.length) : ∃ x, xs[k]? = some x := ⟨_, List.getElem?_eq_getElem h⟩
theorem run_sl29 (A : Option Addr) (n c i : Nat) (hi : i ≤ c) (W : World) : (Instr.slice 29 (.slice A n c) none (some (.int .i64 (i : Int))) none).run Try.prog W = .ok (.slice A i c) W := by
  have h1 : (i : Int) ≤ c := by omega
  have h2 : A.map (·.add (0 * 4)) = A := by cases A <;> simp [Addr.add]
  unfold Instr.slice Instr.sliceBounds Instr.sliceBound
  simp only [Sem.run_bind, run_underlying Try.underlying29, Result.andThen_ok, Sem.run_pure, run_size37, asIntOf]
  try simp only [Option.isSome_none, Bool.false_eq_true, if_false, Sem.run_bind, Sem.run_pure, Result.andThen_ok]
  rw [if_pos ⟨by omega, h1⟩]
  simp only [Sem.run_bind, Sem.run_pure, Result.andThen_ok, h2, ite_self, Nat.sub_zero, Int.toNat_natCast]
theorem run_sl29l (A : Option Addr) (n c k : Nat) (hk : k ≤ n) (hc : n ≤ c) (W : World) : (Instr.slice 29 (.slice A n c) (some (.int .i64 (k : Int))) none none).run Try.prog W = .ok (.slice (dA 4 A c k) (n - k) (c - k)) W := by
  have h1 : (k : Int) ≤ n := by omega
  unfold Instr.slice Instr.sliceBounds Instr.sliceBound
  simp only [Sem.run_bind, run_underlying Try.underlying29, Result.andThen_ok, Sem.run_pure, run_size37, asIntOf]
  try simp only [Option.isSome_none, Bool.false_eq_true, if_false, Sem.run_bind, Sem.run_pure, Result.andThen_ok]
  rw [if_pos ⟨by omega, h1⟩]
  simp only [Sem.run_bind, Sem.run_pure, Result.andThen_ok, Int.toNat_natCast]
  rfl
theorem run_sl24 (A : Option Addr) (n c i : Nat) (hi : i ≤ c) (W : World) : (Instr.slice 24 (.slice A n c) none (some (.int .i64 (i : Int))) none).run Try.prog W = .ok (.slice A i c) W := by
  have h1 : (i : Int) ≤ c := by omega
  have h2 : A.map (·.add (0 * 3)) = A := by cases A <;> simp [Addr.add]
  unfold Instr.slice Instr.sliceBounds Instr.sliceBound
  simp only [Sem.run_bind, run_underlying Try.underlying24, Result.andThen_ok, Sem.run_pure, run_size31, asIntOf]
  try simp only [Option.isSome_none, Bool.false_eq_true, if_false, Sem.run_bind, Sem.run_pure, Result.andThen_ok]
  rw [if_pos ⟨by omega, h1⟩]
  simp only [Sem.run_bind, Sem.run_pure, Result.andThen_ok, h2, ite_self, Nat.sub_zero, Int.toNat_natCast]
end Go.Proofs.Ytmaaniokfpkbjaa
