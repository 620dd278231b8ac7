/-
  The contracts of clock.Clamp, clock.Since and clock.Within, and of the statements' own address and choice; a choice in memory. Conditions: bytes are bytes.
-/
import Derived.Test.YtmaaniokfpkbjaaCat
import Derived.Laws.ResultCell
set_option linter.unusedSimpArgs false
set_option linter.unusedVariables false
namespace Go.Proofs.Ytmaaniokfpkbjaa
open Go.RowKit

/-- A number limited to 0 .. 2^40. -/
def cl (n : Int) : Int := if n < 0 then 0 else if 1099511627776 < n then 1099511627776 else n
theorem cl_ge (n : Int) : 0 ≤ cl n := by unfold cl; split; omega; split <;> omega
theorem cl_le (n : Int) : cl n ≤ 1099511627776 := by unfold cl; split; omega; split <;> omega
theorem cl_eq (n : Int) : min (max n 0) 1099511627776 = cl n := by unfold cl; split; omega; split <;> omega
theorem cl_eq' (n : Int) : max 0 (min n 1099511627776) = cl n := by unfold cl; split; omega; split <;> omega
theorem cl_in {n : Int} (h0 : 0 ≤ n) (h1 : n ≤ 1099511627776) : cl n = n := by unfold cl; rw [if_neg (by omega), if_neg (by omega)]
theorem clamp_any (n : Int) (w : World) : Calls Try.prog 34 #[.int .i64 n] w fun e w' => e = .returned (.int .i64 (cl n)) ∧ w = w' := by
  go_enter Try.func34, Try.ntmps34
  go_wp2
  go_ret
  exact ⟨ret_int (cl_eq n), rfl⟩

/-- So many ticks ago. -/
def si (now t : Int) : Int := cl now - cl t
theorem since_any (t n : Int) (w : World) : Calls Try.prog 29 #[.int .i64 t, .int .i64 n] w fun e w' => e = .returned (.int .i64 (si t n)) ∧ w = w' := by
  have C := Lib.hid fun m W => clamp_any m W
  have a := cl_ge t
  have b := cl_le t
  have c := cl_ge n
  have d := cl_le n
  go_enter Try.func29, Try.ntmps29
  go_wp2_with fail
  refine (C.out _ _).mono ?_
  rintro e w1 ⟨rfl, rfl⟩
  go_wp2_with fail
  refine (C.out _ _).mono ?_
  rintro e w1 ⟨rfl, rfl⟩
  go_wp2_with fail
  go_ret
  exact ⟨rfl, rfl⟩
/-- A deed's address. -/
def nr (n : Int) : Int := 167772160 + n % 64
theorem near_any (n : Int) (w : World) (h0 : 0 ≤ n) (h1 : n < 256) : Calls Try.prog 21 #[.int .u8 n] w fun e w' => e = .returned (.int .u32 (nr n)) ∧ w = w' := by
  go_enter Try.func21, Try.ntmps21
  go_wp2
  go_ret
  exact ⟨rfl, rfl⟩
/-- Within so many ticks of now. -/
def wi (now t n : Int) : Bool := decide (0 ≤ si now t) && decide (si now t < n)
theorem within_any (t u n : Int) (w : World) : Calls Try.prog 41 #[.int .i64 t, .int .i64 u, .int .i64 n] w fun e w' => e = .returned (.bool (wi t u n)) ∧ w = w' := by
  have C := Lib.hid fun a b W => since_any a b W
  by_cases h : 0 ≤ si t u
  · go_enter Try.func41, Try.ntmps41
    go_wp2_with fail
    refine (C.out _ _ _).mono ?_
    rintro e w1 ⟨rfl, rfl⟩
    go_wp2_with fail
    go_ret
    exact ⟨ret_bool (by simp [wi, h]), rfl⟩
  · go_enter Try.func41, Try.ntmps41
    go_wp2_with fail
    refine (C.out _ _ _).mono ?_
    rintro e w1 ⟨rfl, rfl⟩
    go_wp2_with fail
    go_ret
    exact ⟨ret_bool (by simp [wi]; omega), rfl⟩

/-- A choice. -/
structure Cf where
  a : Int
  b : Int
  c : Int
  d : Int
  e : Int
  f : Int
  g : Int
  h : Int
  i : Int
def cfl (x : Cf) : List Value := [.int .i64 x.a, .int .i64 x.b, .int .i64 x.c, .int .i64 x.d, .int .i64 x.e, .int .i64 x.f, .int .i64 x.g, .int .i64 x.h, .int .i64 x.i]
def cfv (x : Cf) : Value := .agg #[.int .i64 x.a, .int .i64 x.b, .int .i64 x.c, .int .i64 x.d, .int .i64 x.e, .int .i64 x.f, .int .i64 x.g, .int .i64 x.h, .int .i64 x.i]
def Cfx (x : Cf) : Obj := .cells #[.int .i64 x.a, .int .i64 x.b, .int .i64 x.c, .int .i64 x.d, .int .i64 x.e, .int .i64 x.f, .int .i64 x.g, .int .i64 x.h, .int .i64 x.i] 27
def zf : Cf := ⟨0, 0, 0, 0, 0, 0, 0, 0, 0⟩
/-- A variable with a choice. -/
structure Cm (W : World) (b : Nat) (x : Cf) : Prop where
  lt : b < W.heap.size
  c0 : W.cell? ⟨b, 0, none⟩ = some (.int .i64 x.a)
  c1 : W.cell? ⟨b, 1, none⟩ = some (.int .i64 x.b)
  c2 : W.cell? ⟨b, 2, none⟩ = some (.int .i64 x.c)
  c3 : W.cell? ⟨b, 3, none⟩ = some (.int .i64 x.d)
  c4 : W.cell? ⟨b, 4, none⟩ = some (.int .i64 x.e)
  c5 : W.cell? ⟨b, 5, none⟩ = some (.int .i64 x.f)
  c6 : W.cell? ⟨b, 6, none⟩ = some (.int .i64 x.g)
  c7 : W.cell? ⟨b, 7, none⟩ = some (.int .i64 x.h)
  c8 : W.cell? ⟨b, 8, none⟩ = some (.int .i64 x.i)
theorem cm_box (w : World) (x : Cf) : Cm (w.alloc (Cfx x)) w.heap.size x := ⟨by simp, by simp [Cfx], by simp [Cfx], by simp [Cfx], by simp [Cfx], by simp [Cfx], by simp [Cfx], by simp [Cfx], by simp [Cfx], by simp [Cfx]⟩
theorem Cm.keep {W W' : World} {b B : Nat} {x : Cf} (h : Cm W b x) (hb : Below B W W') (hB : b < B) (hs : W.heap.size ≤ W'.heap.size) : Cm W' b x :=
  ⟨Nat.lt_of_lt_of_le h.lt hs, by rw [hb.cell (p := ⟨b, 0, none⟩) hB]; exact h.c0, by rw [hb.cell (p := ⟨b, 1, none⟩) hB]; exact h.c1, by rw [hb.cell (p := ⟨b, 2, none⟩) hB]; exact h.c2, by rw [hb.cell (p := ⟨b, 3, none⟩) hB]; exact h.c3, by rw [hb.cell (p := ⟨b, 4, none⟩) hB]; exact h.c4, by rw [hb.cell (p := ⟨b, 5, none⟩) hB]; exact h.c5, by rw [hb.cell (p := ⟨b, 6, none⟩) hB]; exact h.c6, by rw [hb.cell (p := ⟨b, 7, none⟩) hB]; exact h.c7, by rw [hb.cell (p := ⟨b, 8, none⟩) hB]; exact h.c8⟩
theorem Cm.below {W W' : World} {b : Nat} {x : Cf} (h : Cm W b x) (hb : Below W.heap.size W W') : Cm W' b x := h.keep hb h.lt hb.size
theorem Cm.at {W : World} {b : Nat} {x : Cf} (h : Cm W b x) : ∀ j v, (cfl x)[j]? = some v → W.cell? ((⟨b, 0, none⟩ : Addr).add j) = some v := by
  intro j v hv
  rw [Addr.add_mid, Nat.zero_add]
  match j, hv with
  | 0, hv => simp [cfl] at hv; subst hv; exact h.c0
  | 1, hv => simp [cfl] at hv; subst hv; exact h.c1
  | 2, hv => simp [cfl] at hv; subst hv; exact h.c2
  | 3, hv => simp [cfl] at hv; subst hv; exact h.c3
  | 4, hv => simp [cfl] at hv; subst hv; exact h.c4
  | 5, hv => simp [cfl] at hv; subst hv; exact h.c5
  | 6, hv => simp [cfl] at hv; subst hv; exact h.c6
  | 7, hv => simp [cfl] at hv; subst hv; exact h.c7
  | 8, hv => simp [cfl] at hv; subst hv; exact h.c8
  | j + 9, hv => simp [cfl] at hv
theorem size27 : (Try.prog.info? 27).map (·.size) = some 9 := by kernel_rfl
theorem load27 {w : World} {y : Addr} {x : Cf} (h : ∀ j v, (cfl x)[j]? = some v → w.cell? (y.add j) = some v) : (Instr.loadAt 27 (.pointer (some y))).run Try.prog w = .ok (cfv x) w := by
  have hl' : (loadCells y 9).run Try.prog w = .ok (cfl x).toArray w := run_loadCells_list (P := Try.prog) w y (cfl x) h
  obtain ⟨i, hi, hs⟩ := Option.map_eq_some_iff.1 size27
  have hg : (isAgg 27).run Try.prog w = .ok true w := by
    unfold isAgg
    simp only [Sem.run_bind, run_underlying Try.underlying27, Result.andThen_ok, Sem.run_pure]
  have hz : (Go.sizeOf 27).run Try.prog w = .ok 9 w := by
    rw [← hs]
    simp [Go.sizeOf, typeInfo, hi]
  simp only [Instr.loadAt, Instr.sureAddr, loadVar, Sem.run_bind, Sem.run_pure, Result.andThen_ok, hg, hz, hl', if_true]
  rfl
theorem at_load27 {ops : Array Oper} {rest : List Oper} {op : Oper} {a : Act} {w : World} {Q : Exit → Act → World → Prop} (x : Operand) (hgd : op.guard = none) (ho : op.op = .load 27 x) (y : Addr) (z : Cf) (hx : a.eval x = .pointer (some y)) (hr : ∀ j v, (cfl z)[j]? = some v → w.cell? (y.add j) = some v)
    (h : wpList Try.prog ops Q rest (a.put op.dst (.agg #[.int .i64 z.a, .int .i64 z.b, .int .i64 z.c, .int .i64 z.d, .int .i64 z.e, .int .i64 z.f, .int .i64 z.g, .int .i64 z.h, .int .i64 z.i])) w) : wpList Try.prog ops Q (op :: rest) a w :=
  wpList_plain hgd fun _ hK => by
    unfold Oper.wp execOp
    simp only [ho, hx, Sem.run_bind, Sem.run_pure, Result.andThen_ok, load27 hr]
    exact hK _ _ h

theorem at_load27g {ops : Array Oper} {rest : List Oper} {op : Oper} {a : Act} {w : World} {Q : Exit → Act → World → Prop} (x : Operand) (y : Addr) (z : Cf) (hw : Region.wanted op (yielded ops a.tmps) = true) (ho : op.op = .load 27 x) (hx : a.eval x = .pointer (some y)) (hr : ∀ j v, (cfl z)[j]? = some v → w.cell? (y.add j) = some v)
    (h : wpList Try.prog ops Q rest (a.put op.dst (.agg #[.int .i64 z.a, .int .i64 z.b, .int .i64 z.c, .int .i64 z.d, .int .i64 z.e, .int .i64 z.f, .int .i64 z.g, .int .i64 z.h, .int .i64 z.i])) w) : wpList Try.prog ops Q (op :: rest) a w :=
  wpList_want hw fun _ hK => by
    unfold Oper.wp execOp
    simp only [ho, hx, Sem.run_bind, Sem.run_pure, Result.andThen_ok, load27 hr]
    exact hK _ _ h

theorem nine {k : Nat} (h : k < 9) : k = 0 ∨ k = 1 ∨ k = 2 ∨ k = 3 ∨ k = 4 ∨ k = 5 ∨ k = 6 ∨ k = 7 ∨ k = 8 := by omega
theorem cfl_one (x : Cf) : (cfl x).toArray.all (·.oneCell') = true := by simp [cfl, Value.oneCell']
/-- A choice in a block that may be written. -/
def Cb (w : World) (b : Nat) (x : Cf) : Prop := w.rangeAt b 0 (cfl x) ∧ w.there b 0 9
theorem Cb.cm {w : World} {b : Nat} {x : Cf} (h : Cb w b x) : Cm w b x := by
  have key : ∀ j v, (cfl x)[j]? = some v → w.cell? ⟨b, j, none⟩ = some v := fun j v hv => by
    have := h.1 j v hv
    rwa [Nat.zero_add] at this
  have h0 := key 0 _ rfl
  exact ⟨World.block_lt_of_cell? _ _ h0, h0, key 1 _ rfl, key 2 _ rfl, key 3 _ rfl, key 4 _ rfl, key 5 _ rfl, key 6 _ rfl, key 7 _ rfl, key 8 _ rfl⟩
theorem cb_box (w : World) (x : Cf) : Cb (w.alloc (Cfx x)) w.heap.size x := by
  have h : (w.alloc (Cfx x)).heap[w.heap.size]? = some (Cfx x) := heap_alloc_new w _
  have e : ∀ j, (w.alloc (Cfx x)).cell? ⟨w.heap.size, j, none⟩ = _ := fun j => cell_of_row _ _ _ _ _ _ h
  refine ⟨fun j v hv => ?_, fun j hj => ⟨?_, ?_⟩⟩
  · rw [e, Nat.zero_add, ← hv]
    simp [cfl]
  · rw [e, Nat.zero_add]
    rcases nine hj with rfl | rfl | rfl | rfl | rfl | rfl | rfl | rfl | rfl <;> rfl
  · unfold World.frozen?
    rw [h]
    simp [Cfx]
theorem Cb.put {w : World} {b : Nat} {x : Cf} (h : Cb w b x) (y : Cf) : Cb (w.setCells b 0 (cfl y)) b y :=
  ⟨World.rangeAt_setCells_same w b 0 (cfl y) h.2, World.there_setCells h.2 b 0 (cfl y)⟩
theorem below_put {B b : Nat} {w0 : World} (hb : B ≤ b) : ∀ (vs : List Value) (o : Nat) (w : World), Below B w0 w → Below B w0 (w.setCells b o vs)
  | [], _, _, h => h
  | v :: r, o, w, h => below_put hb r (o + 1) _ (h.setCell (by exact hb) v)
theorem results_cell {P : Program} {fn : Func} {p : Tmp} {ty : TypeId} (h : fn.results = #[.cell p ty]) (tmps : Array Value) (w : World) (x : Addr) (v : Value) (hp : tmps.getD p undef = .pointer (some x)) (hl : (loadVar ty x).run P w = .ok v w) :
    (results fn tmps).run P w = .ok v w := by
  have hp' : tmps[p]?.getD undef = .pointer (some x) := by simpa using hp
  simp [results, h, hp', asAddr, hl]
theorem loadv27 {w : World} {b : Nat} {x : Cf} (h : Cb w b x) : (loadVar 27 ⟨b, 0, none⟩).run Try.prog w = .ok (cfv x) w := run_loadVar_mid w b 0 27 (cfl x) _ h.1 Try.underlying27 rfl size27
theorem at_store27 {ops : Array Oper} {rest : List Oper} {o : Oper} {a : Act} {w : World} {Q : Exit → Act → World → Prop} (x y : Operand) (b : Nat) (p q : Cf) (H : Cb w b p) (hgd : o.guard = none) (ho : o.op = .store 27 x y) (hx : a.eval x = .pointer (some ⟨b, 0, none⟩)) (hy : a.eval y = cfv q)
    (h : ∀ w', Hid (Cb w' b q) → Hid (∀ B, B ≤ b → Below B w w') → wpList Try.prog ops Q rest (a.put o.dst undef) w') : wpList Try.prog ops Q (o :: rest) a w :=
  wpList_store_mid hgd 27 x y ho b 0 (cfl q).toArray hx hy H.2 size27 (cfl_one q) (h _ (H.put q) (fun _ hB => below_put hB _ _ _ (Below.refl _ _)))

/-- Nine bytes; the choice that they mean. -/
structure Hc where
  (a b c d e f g h i : Int)
structure Hc.Ok (y : Hc) : Prop where
  a : 0 ≤ y.a ∧ y.a < 256
  b : 0 ≤ y.b ∧ y.b < 256
  c : 0 ≤ y.c ∧ y.c < 256
  d : 0 ≤ y.d ∧ y.d < 256
  e : 0 ≤ y.e ∧ y.e < 256
  f : 0 ≤ y.f ∧ y.f < 256
  g : 0 ≤ y.g ∧ y.g < 256
  h : 0 ≤ y.h ∧ y.h < 256
  i : 0 ≤ y.i ∧ y.i < 256
def hv (y : Hc) : Value := .agg #[.int .u8 y.a, .int .u8 y.b, .int .u8 y.c, .int .u8 y.d, .int .u8 y.e, .int .u8 y.f, .int .u8 y.g, .int .u8 y.h, .int .u8 y.i]
def hl (y : Hc) : List Value := [.int .u8 y.a, .int .u8 y.b, .int .u8 y.c, .int .u8 y.d, .int .u8 y.e, .int .u8 y.f, .int .u8 y.g, .int .u8 y.h, .int .u8 y.i]
def Hcx (y : Hc) : Obj := .cells #[.int .u8 y.a, .int .u8 y.b, .int .u8 y.c, .int .u8 y.d, .int .u8 y.e, .int .u8 y.f, .int .u8 y.g, .int .u8 y.h, .int .u8 y.i] 23
def ch (y : Hc) : Cf := ⟨1 + y.a % 30, 1 + y.a % 30 + y.b % 60, 1 + y.c % 6, 1 + y.d % 20, 1 + y.e % 9, 1 + y.f % 6, y.g % 4, 1 + y.h % 40, y.i % 50⟩
set_option maxRecDepth 100000 in
set_option maxHeartbeats 2000000 in
theorem choice_any (y : Hc) (w : World) (h : y.Ok) : Calls Try.prog 11 #[hv y] w fun e w' => e = .returned (cfv (ch y)) ∧ Below w.heap.size w w' := by
  have P0 := Lib.hid (cb_box (w.alloc (Hcx y)) zf)
  have B0 := Lib.hid (((Below.refl w.heap.size w).alloc (Nat.le_refl _) (Hcx y)).alloc (by simp) (Cfx zf))
  rw [World.size_alloc] at P0
  obtain ⟨⟨a0, a1⟩, ⟨b0, b1⟩, ⟨c0, c1⟩, ⟨d0, d1⟩, ⟨e0, e1⟩, ⟨f0, f1⟩, ⟨g0, g1⟩, ⟨h0, h1⟩, ⟨i0, i1⟩⟩ := h
  unfold hv
  go_enter Try.func11, Try.ntmps11
  go_wp2_with (refine at_store27 _ _ _ zf (ch y) P0.out rfl rfl rfl rfl ?_; intro w2 P2 B2)
  refine bodyPost_ret (results_cell rfl _ _ _ _ rfl (loadv27 P2.out)) rfl ?_
  exact ⟨rfl, B0.out.trans (B2.out _ (by omega))⟩

end Go.Proofs.Ytmaaniokfpkbjaa
