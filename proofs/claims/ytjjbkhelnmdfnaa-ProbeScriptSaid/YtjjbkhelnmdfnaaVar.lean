/-
  Questions, packets and nine bytes in a variable of one's own; cells of a row's elements; the contracts of probe.Of and probe.Packet. Conditions: bytes are bytes.
-/
import Derived.Test.YtjjbkhelnmdfnaaClk
set_option linter.unusedSimpArgs false
set_option linter.unusedVariables false
namespace Go.Proofs.Ytjjbkhelnmdfnaa
open Go.RowKit

/-- A variable of one's own that may be written. -/
def Qb (w : World) (b : Nat) (x : Pr) : Prop := w.rangeAt b 0 (prl x) ∧ w.there b 0 5
theorem Qb.key {w : World} {b : Nat} {x : Pr} (h : Qb w b x) : ∀ j v, (prl x)[j]? = some v → w.cell? ⟨b, j, none⟩ = some v := fun j v hv => by
  have := h.1 j v hv
  rwa [Nat.zero_add] at this
theorem Qb.at {w : World} {b : Nat} {x : Pr} (h : Qb w b x) : ∀ j v, (prl x)[j]? = some v → w.cell? ((⟨b, 0, none⟩ : Addr).add j) = some v := fun j v hv => by
  rw [Addr.add_mid, Nat.zero_add]
  exact h.key j v hv
theorem Qb.lt {w : World} {b : Nat} {x : Pr} (h : Qb w b x) : b < w.heap.size := World.block_lt_of_cell? _ _ (h.key 0 _ rfl)
theorem prl_one (x : Pr) : (prl x).toArray.all (·.oneCell') = true := by simp [prl, Value.oneCell']
theorem five {k : Nat} (h : k < 5) : k = 0 ∨ k = 1 ∨ k = 2 ∨ k = 3 ∨ k = 4 := by omega
theorem qb_box (w : World) (x : Pr) : Qb (w.alloc (Prx x)) w.heap.size x := by
  have h : (w.alloc (Prx x)).heap[w.heap.size]? = some (Prx x) := heap_alloc_new w _
  have e : ∀ j, (w.alloc (Prx x)).cell? ⟨w.heap.size, j, none⟩ = _ := fun j => cell_of_row _ _ _ _ _ _ h
  refine ⟨fun j v hv => ?_, fun j hj => ⟨?_, ?_⟩⟩
  · rw [e, Nat.zero_add, ← hv]
    simp [prl]
  · rw [e, Nat.zero_add]
    rcases five hj with rfl | rfl | rfl | rfl | rfl <;> rfl
  · unfold World.frozen?
    rw [h]
    simp [Prx]
theorem Qb.keep {w w' : World} {b B : Nat} {x : Pr} (h : Qb w b x) (hb : Below B w w') (hB : b < B) : Qb w' b x :=
  ⟨fun j v hv => by rw [hb.cell (p := ⟨b, 0 + j, none⟩) hB]; exact h.1 j v hv, fun j hj => ⟨by rw [hb.cell (p := ⟨b, 0 + j, none⟩) hB]; exact (h.2 j hj).1, by rw [hb.frozen (p := ⟨b, 0 + j, none⟩) hB]; exact (h.2 j hj).2⟩⟩
theorem Qb.below {w w' : World} {b : Nat} {x : Pr} (h : Qb w b x) (hb : Below w.heap.size w w') : Qb w' b x := h.keep hb h.lt
theorem Qb.drewN {w : World} {b : Nat} {x : Pr} (h : Qb w b x) (n : Nat) : Qb (w.drewN n) b x := h.below (bdrewN (Below.refl _ _) n)
theorem Qb.put {w : World} {b : Nat} {x : Pr} (h : Qb w b x) (y : Pr) : Qb (w.setCells b 0 (prl y)) b y :=
  ⟨World.rangeAt_setCells_same w b 0 (prl y) h.2, World.there_setCells h.2 b 0 (prl y)⟩
theorem loadv37 {w : World} {b : Nat} {x : Pr} (h : Qb w b x) : (loadVar 37 ⟨b, 0, none⟩).run Try.prog w = .ok (prv x) w := run_loadVar_mid w b 0 37 (prl x) _ h.1 Try.underlying37 rfl size37
theorem cells_of37 (b : Nat) : ∀ (us : List Value) (o : Nat) (w : World) (k : Nat), k ≠ b → (w.setCells b o us).heap[k]? = w.heap[k]?
  | [], _, _, _, _ => rfl
  | u :: r, o, w, k, h => (cells_of37 b r (o + 1) _ k h).trans (heap_setCell_other w ⟨b, o, none⟩ k u h)
theorem at_store37 {ops : Array Oper} {rest : List Oper} {o : Oper} {a : Act} {w : World} {Q : Exit → Act → World → Prop} (x y : Operand) (b : Nat) (p q : Pr) (H : Qb w b p) (hgd : o.guard = none) (ho : o.op = .store 37 x y) (hx : a.eval x = .pointer (some ⟨b, 0, none⟩)) (hy : a.eval y = prv q)
    (h : ∀ w', Hid (Qb w' b q) → Hid (∀ B, B ≤ b → Below B w w') → Hid (∀ k, k ≠ b → w'.heap[k]? = w.heap[k]?) → wpList Try.prog ops Q rest (a.put o.dst undef) w') : wpList Try.prog ops Q (o :: rest) a w :=
  wpList_store_mid hgd 37 x y ho b 0 (prl q).toArray hx hy H.2 size37 (prl_one q) (h _ (H.put q) (fun _ hB => below_put hB _ _ _ (Below.refl _ _)) (cells_of37 b _ _ _))

/-- A variable of one's own that may be written. -/
def Kb (w : World) (b : Nat) (x : Pk) : Prop := w.rangeAt b 0 (pkl x) ∧ w.there b 0 11
theorem Kb.key {w : World} {b : Nat} {x : Pk} (h : Kb w b x) : ∀ j v, (pkl x)[j]? = some v → w.cell? ⟨b, j, none⟩ = some v := fun j v hv => by
  have := h.1 j v hv
  rwa [Nat.zero_add] at this
theorem Kb.at {w : World} {b : Nat} {x : Pk} (h : Kb w b x) : ∀ j v, (pkl x)[j]? = some v → w.cell? ((⟨b, 0, none⟩ : Addr).add j) = some v := fun j v hv => by
  rw [Addr.add_mid, Nat.zero_add]
  exact h.key j v hv
theorem Kb.lt {w : World} {b : Nat} {x : Pk} (h : Kb w b x) : b < w.heap.size := World.block_lt_of_cell? _ _ (h.key 0 _ rfl)
theorem pkl_one (x : Pk) : (pkl x).toArray.all (·.oneCell') = true := by simp [pkl, Value.oneCell']
theorem eleven {k : Nat} (h : k < 11) : k = 0 ∨ k = 1 ∨ k = 2 ∨ k = 3 ∨ k = 4 ∨ k = 5 ∨ k = 6 ∨ k = 7 ∨ k = 8 ∨ k = 9 ∨ k = 10 := by omega
theorem kb_box (w : World) (x : Pk) : Kb (w.alloc (Pkx x)) w.heap.size x := by
  have h : (w.alloc (Pkx x)).heap[w.heap.size]? = some (Pkx x) := heap_alloc_new w _
  have e : ∀ j, (w.alloc (Pkx x)).cell? ⟨w.heap.size, j, none⟩ = _ := fun j => cell_of_row _ _ _ _ _ _ h
  refine ⟨fun j v hv => ?_, fun j hj => ⟨?_, ?_⟩⟩
  · rw [e, Nat.zero_add, ← hv]
    simp [pkl]
  · rw [e, Nat.zero_add]
    rcases eleven hj with rfl | rfl | rfl | rfl | rfl | rfl | rfl | rfl | rfl | rfl | rfl <;> rfl
  · unfold World.frozen?
    rw [h]
    simp [Pkx]
theorem Kb.keep {w w' : World} {b B : Nat} {x : Pk} (h : Kb w b x) (hb : Below B w w') (hB : b < B) : Kb w' b x :=
  ⟨fun j v hv => by rw [hb.cell (p := ⟨b, 0 + j, none⟩) hB]; exact h.1 j v hv, fun j hj => ⟨by rw [hb.cell (p := ⟨b, 0 + j, none⟩) hB]; exact (h.2 j hj).1, by rw [hb.frozen (p := ⟨b, 0 + j, none⟩) hB]; exact (h.2 j hj).2⟩⟩
theorem Kb.below {w w' : World} {b : Nat} {x : Pk} (h : Kb w b x) (hb : Below w.heap.size w w') : Kb w' b x := h.keep hb h.lt
theorem Kb.drewN {w : World} {b : Nat} {x : Pk} (h : Kb w b x) (n : Nat) : Kb (w.drewN n) b x := h.below (bdrewN (Below.refl _ _) n)
theorem Kb.put {w : World} {b : Nat} {x : Pk} (h : Kb w b x) (y : Pk) : Kb (w.setCells b 0 (pkl y)) b y :=
  ⟨World.rangeAt_setCells_same w b 0 (pkl y) h.2, World.there_setCells h.2 b 0 (pkl y)⟩
theorem loadv44 {w : World} {b : Nat} {x : Pk} (h : Kb w b x) : (loadVar 44 ⟨b, 0, none⟩).run Try.prog w = .ok (pkv x) w := run_loadVar_mid w b 0 44 (pkl x) _ h.1 Try.underlying44 rfl size44
theorem cells_of44 (b : Nat) : ∀ (us : List Value) (o : Nat) (w : World) (k : Nat), k ≠ b → (w.setCells b o us).heap[k]? = w.heap[k]?
  | [], _, _, _, _ => rfl
  | u :: r, o, w, k, h => (cells_of44 b r (o + 1) _ k h).trans (heap_setCell_other w ⟨b, o, none⟩ k u h)
theorem at_store44 {ops : Array Oper} {rest : List Oper} {o : Oper} {a : Act} {w : World} {Q : Exit → Act → World → Prop} (x y : Operand) (b : Nat) (p q : Pk) (H : Kb w b p) (hgd : o.guard = none) (ho : o.op = .store 44 x y) (hx : a.eval x = .pointer (some ⟨b, 0, none⟩)) (hy : a.eval y = pkv q)
    (h : ∀ w', Hid (Kb w' b q) → Hid (∀ B, B ≤ b → Below B w w') → Hid (∀ k, k ≠ b → w'.heap[k]? = w.heap[k]?) → wpList Try.prog ops Q rest (a.put o.dst undef) w') : wpList Try.prog ops Q (o :: rest) a w :=
  wpList_store_mid hgd 44 x y ho b 0 (pkl q).toArray hx hy H.2 size44 (pkl_one q) (h _ (H.put q) (fun _ hB => below_put hB _ _ _ (Below.refl _ _)) (cells_of44 b _ _ _))

theorem Qb.c {w : World} {b : Nat} {x : Pr} (h : Qb w b x) : w.cell? ⟨b, 0, none⟩ = some (.int .u32 x.a) ∧ w.cell? ⟨b, 1, none⟩ = some (.int .i64 x.i) ∧ w.cell? ⟨b, 2, none⟩ = some (.int .i64 x.s) ∧ w.cell? ⟨b, 3, none⟩ = some (.int .i64 x.t) ∧ w.cell? ⟨b, 4, none⟩ = some (.int .i64 x.n) := ⟨h.key 0 _ rfl, h.key 1 _ rfl, h.key 2 _ rfl, h.key 3 _ rfl, h.key 4 _ rfl⟩
theorem Kb.c {w : World} {b : Nat} {x : Pk} (h : Kb w b x) : w.cell? ⟨b, 0, none⟩ = some (.bool x.a) ∧ w.cell? ⟨b, 1, none⟩ = some (.int .u32 x.f) ∧ w.cell? ⟨b, 9, none⟩ = some (.int .i64 x.i) ∧ w.cell? ⟨b, 10, none⟩ = some (.int .i64 x.s) := ⟨h.key 0 _ rfl, h.key 1 _ rfl, h.key 9 _ rfl, h.key 10 _ rfl⟩
theorem pr_box (w : World) (x : Pr) : (w.alloc (Prx x)).cell? ⟨w.heap.size, 0, none⟩ = some (.int .u32 x.a) ∧ (w.alloc (Prx x)).cell? ⟨w.heap.size, 1, none⟩ = some (.int .i64 x.i) ∧ (w.alloc (Prx x)).cell? ⟨w.heap.size, 2, none⟩ = some (.int .i64 x.s) ∧ (w.alloc (Prx x)).cell? ⟨w.heap.size, 3, none⟩ = some (.int .i64 x.t) ∧ (w.alloc (Prx x)).cell? ⟨w.heap.size, 4, none⟩ = some (.int .i64 x.n) := (qb_box w x).c
theorem ac_box (w : World) (x : Ac) : (w.alloc (Acx x)).cell? ⟨w.heap.size, 0, none⟩ = some (.int .u8 x.o) ∧ (w.alloc (Acx x)).cell? ⟨w.heap.size, 1, none⟩ = some (.int .u8 x.p) ∧ (w.alloc (Acx x)).cell? ⟨w.heap.size, 2, none⟩ = some (.int .u16 x.q) ∧ (w.alloc (Acx x)).cell? ⟨w.heap.size, 3, none⟩ = some (.int .u8 x.r) := by
  simp [Acx]

/-- The question to an address. -/
def ofP (a seq now : Int) : Pr := ⟨a, a % 65536, seq % 65536, cl now, 0⟩
set_option maxRecDepth 100000 in
set_option maxHeartbeats 2000000 in
theorem of_any (a s n : Int) (w : World) : Calls Try.prog 17 #[.int .u32 a, .int .i64 s, .int .i64 n] w fun e w' => e = .returned (prv (ofP a s n)) ∧ Below w.heap.size w w' := by
  have P0 := Lib.hid (qb_box w zr)
  have B0 := Lib.hid ((Below.refl w.heap.size w).alloc (Nat.le_refl _) (Prx zr))
  have C1 := Lib.hid fun W => idOf_any a W
  have C2 := Lib.hid fun W => clamp_any n W
  have h16 : wrap64 (IntKind.u16.wrap s) = s % 65536 := by rw [IntKind.wrap_u16]; unfold wrap64; omega
  go_enter Try.func17, Try.ntmps17
  go_wp2_with fail
  refine (C1.out _).mono ?_
  rintro e w1 ⟨rfl, rfl⟩
  go_wp2_with fail
  refine (C2.out _).mono ?_
  rintro e w1 ⟨rfl, rfl⟩
  go_wp2_with (refine at_store37 _ _ _ zr (ofP a s n) P0.out rfl rfl rfl rfl ?_; intro w2 P2 B2 G2)
  refine bodyPost_ret (results_cell rfl _ _ _ _ rfl (loadv37 P2.out)) rfl ?_
  exact ⟨rfl, B0.out.trans (B2.out _ (Nat.le_refl _))⟩
/-- What a question is sent as. -/
def pkO (x : Pr) : Pk := ⟨false, 0, x.a, 0, 0, 0, 0, 0, 0, x.i, x.s⟩
set_option maxRecDepth 100000 in
set_option maxHeartbeats 2000000 in
theorem packet_any (x : Pr) (w : World) : Calls Try.prog 19 #[prv x] w fun e w' => e = .returned (pkv (pkO x)) ∧ Below w.heap.size w w' := by
  have P0 := Lib.hid (kb_box (w.alloc (Prx x)) zk)
  have B0 := Lib.hid (((Below.refl w.heap.size w).alloc (Nat.le_refl _) (Prx x)).alloc (by simp) (Pkx zk))
  rw [World.size_alloc] at P0
  unfold prv
  go_enter Try.func19, Try.ntmps19
  go_wp2_with (refine at_store44 _ _ _ zk (pkO x) P0.out rfl rfl rfl rfl ?_; intro w2 P2 B2 G2)
  refine bodyPost_ret (results_cell rfl _ _ _ _ rfl (loadv44 P2.out)) rfl ?_
  exact ⟨rfl, B0.out.trans (B2.out _ (by omega))⟩
theorem size23 : (Try.prog.info? 23).map (·.size) = some 9 := by kernel_rfl
theorem run_size23 (W : World) : (Go.sizeOf 23).run Try.prog W = .ok 9 W := by
  obtain ⟨i, hi, hs⟩ := Option.map_eq_some_iff.1 size23
  rw [← hs]
  simp [Go.sizeOf, typeInfo, hi]
theorem load23 {w : World} {y : Addr} {x : Hc} (h : ∀ j v, (hl x)[j]? = some v → w.cell? (y.add j) = some v) : (Instr.loadAt 23 (.pointer (some y))).run Try.prog w = .ok (.agg (hl x).toArray) w := by
  have hl' : (loadCells y 9).run Try.prog w = .ok (hl x).toArray w := run_loadCells_list (P := Try.prog) w y (hl x) h
  have hg : (isAgg 23).run Try.prog w = .ok true w := by
    unfold isAgg
    simp only [Sem.run_bind, run_underlying Try.underlying23, Result.andThen_ok, Sem.run_pure]
  simp only [Instr.loadAt, Instr.sureAddr, loadVar, Sem.run_bind, Sem.run_pure, Result.andThen_ok, hg, run_size23, hl', if_true]
theorem at_load23 {ops : Array Oper} {rest : List Oper} {op : Oper} {a : Act} {w : World} {Q : Exit → Act → World → Prop} (x : Operand) (hgd : op.guard = none) (ho : op.op = .load 23 x) (y : Addr) (z : Hc) (hx : a.eval x = .pointer (some y)) (hr : ∀ j v, (hl z)[j]? = some v → w.cell? (y.add j) = some v)
    (h : wpList Try.prog ops Q rest (a.put op.dst (.agg #[.int .u8 z.a, .int .u8 z.b, .int .u8 z.c, .int .u8 z.d, .int .u8 z.e, .int .u8 z.f, .int .u8 z.g, .int .u8 z.h, .int .u8 z.i])) w) : wpList Try.prog ops Q (op :: rest) a w :=
  wpList_plain hgd fun _ hK => by
    unfold Oper.wp execOp
    simp only [ho, hx, Sem.run_bind, Sem.run_pure, Result.andThen_ok, load23 hr]
    exact hK _ _ h
section
variable {ops : Array Oper} {rest : List Oper} {o : Oper} {a : Act} {C : World → Prop} {Q : Act → Prop}
theorem quiet_load23 (x : Operand) (y : Addr) (p : Hc) (hr : ∀ W, C W → ∀ j v, (hl p)[j]? = some v → W.cell? (y.add j) = some v) (hw : Region.wanted o (yielded ops a.tmps) = true) (ho : o.op = .load 23 x) (hx : a.eval x = .pointer (some y)) (h : wpQuiet Try.prog ops C Q rest (a.put o.dst (.agg #[.int .u8 p.a, .int .u8 p.b, .int .u8 p.c, .int .u8 p.d, .int .u8 p.e, .int .u8 p.f, .int .u8 p.g, .int .u8 p.h, .int .u8 p.i]))) : wpQuiet Try.prog ops C Q (o :: rest) a :=
  BigFrame.wpQuiet_want hw fun K hK => ⟨.agg #[.int .u8 p.a, .int .u8 p.b, .int .u8 p.c, .int .u8 p.d, .int .u8 p.e, .int .u8 p.f, .int .u8 p.g, .int .u8 p.h, .int .u8 p.i], fun W hC => by
    unfold Oper.quietAt execOp
    simp only [ho, hx, Sem.run_bind, Sem.run_pure, Result.andThen_ok, load23 (hr W hC)]
    exact ⟨rfl, rfl⟩, hK _ h⟩
end

theorem hc_box (w : World) (x : Hc) : ∀ j v, (hl x)[j]? = some v → (w.alloc (Hcx x)).cell? ((⟨w.heap.size, 0, none⟩ : Addr).add j) = some v := by
  intro j v hv
  rw [Addr.add_mid, Nat.zero_add]
  match j, hv with
  | 0, hv => simp [hl] at hv; subst hv; simp [Hcx]
  | 1, hv => simp [hl] at hv; subst hv; simp [Hcx]
  | 2, hv => simp [hl] at hv; subst hv; simp [Hcx]
  | 3, hv => simp [hl] at hv; subst hv; simp [Hcx]
  | 4, hv => simp [hl] at hv; subst hv; simp [Hcx]
  | 5, hv => simp [hl] at hv; subst hv; simp [Hcx]
  | 6, hv => simp [hl] at hv; subst hv; simp [Hcx]
  | 7, hv => simp [hl] at hv; subst hv; simp [Hcx]
  | 8, hv => simp [hl] at hv; subst hv; simp [Hcx]
  | j + 9, hv => simp [hl] at hv
theorem rw_lt {α : Type} {E : El α} {w : World} {A : Option Addr} {xs : List α} (h : Rw E w A xs) : ∀ y, A = some y → 0 < xs.length → y.block < w.heap.size := fun y hy hp => by
  obtain ⟨y', hy', hc⟩ := h.2 0 xs[0] (List.getElem?_eq_getElem hp)
  rw [hy] at hy'
  obtain rfl := Option.some.inj hy'
  have hN := E.pos
  have hl := E.len xs[0]
  have hv : (E.cl xs[0])[0]? = some (E.cl xs[0])[0] := List.getElem?_eq_getElem (by omega)
  have := World.block_lt_of_cell? _ _ (hc 0 _ hv)
  rwa [add_block] at this
theorem Rw.grownN {α : Type} {E : El α} {w w' : World} {A : Option Addr} {xs : List α} {g B : Nat} (h : Rw E w A xs) (hg : w.grownBy w' (some g)) (hb : ∀ y, A = some y → 0 < xs.length → y.block < B) (hB : B ≤ g) : Rw E w' A xs := by
  rcases Nat.eq_zero_or_pos xs.length with h0 | h0
  · rw [List.eq_nil_of_length_eq_zero h0]
    exact Rw.nil _ _
  · refine h.grown hg fun y hy e => ?_
    injection e with e
    have := hb y hy h0
    omega
/-- Nine bytes that lie there. -/
def Hm (W : World) (b : Nat) (x : Hc) : Prop := ∀ j v, (hl x)[j]? = some v → W.cell? ((⟨b, 0, none⟩ : Addr).add j) = some v
theorem Hm.lt {W : World} {b : Nat} {x : Hc} (h : Hm W b x) : b < W.heap.size := by
  have := World.block_lt_of_cell? _ _ (h 0 _ rfl)
  rwa [add_block] at this
theorem Hm.below {W W' : World} {b : Nat} {x : Hc} (h : Hm W b x) (hb : Below W.heap.size W W') : Hm W' b x := fun j v hv => by
  rw [hb.cell (by rw [add_block]; exact h.lt)]
  exact h j v hv

theorem rw_c0 {w : World} {y : Addr} {xs : List Pr} (R : Rw eP w (some y) xs) {k : Nat} {x : Pr} (hx : xs[k]? = some x) : w.cell? (y.add (k * 5)) = some (.int .u32 x.a) ∧ w.cell? (y.add (k * 5 + 1)) = some (.int .i64 x.i) ∧ w.cell? (y.add (k * 5 + 2)) = some (.int .i64 x.s) ∧ w.cell? (y.add (k * 5 + 3)) = some (.int .i64 x.t) ∧ w.cell? (y.add (k * 5 + 4)) = some (.int .i64 x.n) := by
  obtain ⟨y', hy, hc⟩ := R.2 k x hx
  injection hy with hy
  subst hy
  exact ⟨hc 0 _ rfl, hc 1 _ rfl, hc 2 _ rfl, hc 3 _ rfl, hc 4 _ rfl⟩
theorem rw_f {w : World} {y : Addr} {xs : List Pr} (R : Rw eP w (some y) xs) {k : Nat} {x : Pr} (hx : xs[k]? = some x) : w.cell? ⟨(y.add (k * 5)).block, (y.add (k * 5)).off + 2, none⟩ = some (.int .i64 x.s) := by
  obtain ⟨-, -, h2, -, -⟩ := rw_c0 R hx
  have e : ∀ j, 0 < j → (⟨(y.add (k * 5)).block, (y.add (k * 5)).off + j, none⟩ : Addr) = y.add (k * 5 + j) := fun j hj => by
    rw [← Addr.add_add]
    generalize y.add (k * 5) = z
    unfold Addr.add
    rw [if_neg (by omega)]
  rw [e 2 (by omega)]; exact h2
theorem at_of_lt {xs : List Pr} {k : Nat} (h : k < xs.length) : ∃ x, xs[k]? = some x := ⟨_, List.getElem?_eq_getElem h⟩
theorem run_sl29 (A : Option Addr) (n c i : Nat) (hi : i ≤ c) (W : World) : (Instr.slice 29 (.slice A n c) none (some (.int .i64 (i : Int))) none).run Try.prog W = .ok (.slice A i c) W := by
  have h1 : (i : Int) ≤ c := by omega
  have h2 : A.map (·.add (0 * 5)) = A := by cases A <;> simp [Addr.add]
  unfold Instr.slice Instr.sliceBounds Instr.sliceBound
  simp only [Sem.run_bind, run_underlying Try.underlying29, Result.andThen_ok, Sem.run_pure, run_size37, asIntOf]
  try simp only [Option.isSome_none, Bool.false_eq_true, if_false, Sem.run_bind, Sem.run_pure, Result.andThen_ok]
  rw [if_pos ⟨by omega, h1⟩]
  simp only [Sem.run_bind, Sem.run_pure, Result.andThen_ok, h2, ite_self, Nat.sub_zero, Int.toNat_natCast]
theorem run_sl29l (A : Option Addr) (n c k : Nat) (hk : k ≤ n) (hc : n ≤ c) (W : World) : (Instr.slice 29 (.slice A n c) (some (.int .i64 (k : Int))) none none).run Try.prog W = .ok (.slice (dA 5 A c k) (n - k) (c - k)) W := by
  have h1 : (k : Int) ≤ n := by omega
  unfold Instr.slice Instr.sliceBounds Instr.sliceBound
  simp only [Sem.run_bind, run_underlying Try.underlying29, Result.andThen_ok, Sem.run_pure, run_size37, asIntOf]
  try simp only [Option.isSome_none, Bool.false_eq_true, if_false, Sem.run_bind, Sem.run_pure, Result.andThen_ok]
  rw [if_pos ⟨by omega, h1⟩]
  simp only [Sem.run_bind, Sem.run_pure, Result.andThen_ok, Int.toNat_natCast]
  rfl
theorem run_sl24 (A : Option Addr) (n c i : Nat) (hi : i ≤ c) (W : World) : (Instr.slice 24 (.slice A n c) none (some (.int .i64 (i : Int))) none).run Try.prog W = .ok (.slice A i c) W := by
  have h1 : (i : Int) ≤ c := by omega
  have h2 : A.map (·.add (0 * 4)) = A := by cases A <;> simp [Addr.add]
  unfold Instr.slice Instr.sliceBounds Instr.sliceBound
  simp only [Sem.run_bind, run_underlying Try.underlying24, Result.andThen_ok, Sem.run_pure, run_size32, asIntOf]
  try simp only [Option.isSome_none, Bool.false_eq_true, if_false, Sem.run_bind, Sem.run_pure, Result.andThen_ok]
  rw [if_pos ⟨by omega, h1⟩]
  simp only [Sem.run_bind, Sem.run_pure, Result.andThen_ok, h2, ite_self, Nat.sub_zero, Int.toNat_natCast]
end Go.Proofs.Ytjjbkhelnmdfnaa
