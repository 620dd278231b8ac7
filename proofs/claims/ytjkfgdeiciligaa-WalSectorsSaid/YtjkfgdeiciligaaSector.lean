/-
  Contracts of the statements' own sector, and of what is small of a disk: what each returns, and what of memory turns. Conditions: a byte is one, a disk is there.
-/
import Derived.Test.YtjkfgdeiciligaaBase
import Derived.Laws.ResultCell
namespace Go.Proofs.Ytjkfgdeiciligaa
open Go.RowKit

theorem rowZ (w : World) : (w.alloc Z64).rowIs w.heap.size 52 64 (fun _ => .int .u8 0) := by
  have := World.rowIs_alloc w (sc zer).toArray 52 (fun _ => .int .u8 0) (fun i hi => by
    have hi : i < 64 := by simpa [sc_length] using hi
    rw [List.getElem?_toArray, sc_get hi]; rfl)
  rw [Z64]
  simpa [sc_length] using this
theorem rowIs_range {w : World} {b n : Nat} {t : TypeId} {f : Nat → Value} {s : Nat → Nat} (h : w.rowIs b t n f) (hn : n = 64) (hs : ∀ j, j < 64 → f j = .int .u8 (s j : Int)) : w.rangeAt b 0 (sc s) := by
  intro j v hv
  subst hn
  have hj : j < 64 := by have := (List.getElem?_eq_some_iff.1 hv).1; rwa [sc_length] at this
  rw [sc_get hj] at hv
  rw [Nat.zero_add, h.cell hj, hs j hj, hv]
theorem rowIs_there {w : World} {b n : Nat} {t : TypeId} {f : Nat → Value} (h : w.rowIs b t n f) {o m : Nat} (hm : o + m ≤ n) : w.there b o m :=
  fun j hj => ⟨by rw [h.cell (show o + j < n by omega)]; rfl, h.frozen _⟩
theorem load38 {w : World} {b o : Nat} {s : Nat → Nat} (h : w.rangeAt b o (sc s)) : (Instr.loadAt 52 (.pointer (some ⟨b, o, none⟩))).run Try.prog w = .ok (sv s) w :=
  run_loadAt_mid w b o 52 (sc s) _ h Try.underlying52 rfl (by rw [sc_length]; exact size38)
theorem loadVar38 {w : World} {b o : Nat} {s : Nat → Nat} (h : w.rangeAt b o (sc s)) : (loadVar 52 ⟨b, o, none⟩).run Try.prog w = .ok (sv s) w :=
  run_loadVar_mid w b o 52 (sc s) _ h Try.underlying52 rfl (by rw [sc_length]; exact size38)
theorem store38 {w : World} {b o : Nat} (s : Nat → Nat) (h : w.there b o 64) : (Instr.storeAt 52 (.pointer (some ⟨b, o, none⟩)) (sv s)).run Try.prog w = .ok () (w.setCells b o (sc s)) := by
  have := run_storeAt_mid (P := Try.prog) w b o 52 (sc s).toArray (by simpa [sc_length] using h) (by simpa [sc_length] using size38) (all_oneCell_toArray (sc_one s))
  simpa [sv] using this

theorem below_setCells {B : Nat} {w : World} (b : Nat) : ∀ (vs : List Value) (o : Nat) {w' : World}, Below B w w' → B ≤ b → Below B w (w'.setCells b o vs)
  | [], _, _, h, _ => h
  | v :: r, o, w', h, hb => by
    rw [World.setCells]
    exact below_setCells b r (o + 1) (h.setCell (p := ⟨b, o, none⟩) hb v) hb

theorem results_cell {P : Program} {fn : Func} {p : Tmp} {ty : TypeId} (h : fn.results = #[.cell p ty]) (tmps : Array Value) (w : World) (x : Addr) (v : Value) (hp : tmps.getD p undef = .pointer (some x)) (hl : (loadVar ty x).run P w = .ok v w) :
    (results fn tmps).run P w = .ok v w := by
  have hp' : tmps[p]?.getD undef = .pointer (some x) := by simpa using hp
  simp [results, h, hp', asAddr, hl]
theorem results_cell2 {P : Program} {fn : Func} {p u : Tmp} {ty : TypeId} (h : fn.results = #[.cell p ty, .tmp u]) (tmps : Array Value) (w : World) (x : Addr) (v : Value) (hp : tmps.getD p undef = .pointer (some x)) (hl : (loadVar ty x).run P w = .ok v w) :
    (results fn tmps).run P w = .ok (.tuple #[v, tmps.getD u undef]) w := by
  rw [results_cell_tmp h, hp]
  simp [asAddr, hl, Result.andThen]

section
variable {ops : Array Oper} {rest : List Oper} {op : Oper} {a : Act} {w : World} {Q : Exit → Act → World → Prop}
theorem at_alloc38 (hgd : op.guard = none) (ho : op.op = .alloc 52) (h : wpList Try.prog ops Q rest (a.put op.dst (.pointer (some ⟨w.heap.size, 0, none⟩))) (w.alloc Z64)) : wpList Try.prog ops Q (op :: rest) a w :=
  wpList_plain hgd fun _ hK => by
    unfold Oper.wp execOp
    simp only [ho, Sem.run_bind, Sem.run_pure, Result.andThen_ok, run_alloc38 _ rfl w]
    exact hK _ _ h
theorem at_load38 (x : Operand) (hgd : op.guard = none) (ho : op.op = .load 52 x) (b o : Nat) (s : Nat → Nat) (hx : a.eval x = .pointer (some ⟨b, o, none⟩)) (hr : w.rangeAt b o (sc s)) (h : wpList Try.prog ops Q rest (a.put op.dst (sv s)) w) : wpList Try.prog ops Q (op :: rest) a w :=
  wpList_plain hgd fun _ hK => by
    unfold Oper.wp execOp
    simp only [ho, hx, Sem.run_bind, Sem.run_pure, Result.andThen_ok, load38 hr]
    exact hK _ _ h
theorem at_store38 (x y : Operand) (hgd : op.guard = none) (ho : op.op = .store 52 x y) (b o : Nat) (s : Nat → Nat) (hx : a.eval x = .pointer (some ⟨b, o, none⟩)) (hy : a.eval y = sv s) (hr : w.there b o 64) (h : wpList Try.prog ops Q rest (a.put op.dst undef) (w.setCells b o (sc s))) : wpList Try.prog ops Q (op :: rest) a w :=
  wpList_plain hgd fun _ hK => by
    unfold Oper.wp execOp
    simp only [ho, hx, hy, Sem.run_bind, Sem.run_pure, Result.andThen_ok, store38 s hr]
    exact hK _ _ h
end

/-- Why a sector can't be accessed. -/
def rfs (M : Dk) (n : Int) : Int := if M.down then 9 else if 0 ≤ n ∧ n < M.n then 0 else 3
theorem Ds.shape {w : World} {p k : Nat} {pv : Value} {M : Dk} (h : Ds w p k pv M) : ∃ A cap, pv = .slice A M.pend.length cap := by
  rcases h.own.2 with ⟨rfl, h0⟩ | ⟨g, cap, cur, hv, _⟩
  · exact ⟨none, 0, by rw [h0]⟩
  · exact ⟨_, cap, hv⟩

theorem refusal_any (p k : Nat) (pv : Value) (M : Dk) (n : Int) (w : World) (h : Ds w p k pv M) :
    Calls Try.prog 40 #[.pointer (some ⟨p, 0, none⟩), .int .i64 n] w fun e w' => e = .returned (.int .i64 (rfs M n)) ∧ w = w' := by
  have c0 := h.cell 0
  have c5 := h.cell 7
  have hn := h.n
  simp only [List.getElem?_toArray, List.getElem?_cons_succ, List.getElem?_cons_zero] at c0 c5
  clear h
  unfold rfs
  cases hd : M.down
  · rw [hd] at c5
    go_enter Try.func40, Try.ntmps40
    go_wp2
    all_goals (go_ret; exact ⟨rfl, rfl⟩)
  · rw [hd] at c5
    go_enter Try.func40, Try.ntmps40
    go_wp2
    go_ret
    exact ⟨rfl, rfl⟩

theorem size_any (p k : Nat) (pv : Value) (M : Dk) (w : World) (h : Ds w p k pv M) :
    Calls Try.prog 29 #[.pointer (some ⟨p, 0, none⟩)] w fun e w' => e = .returned (.int .i64 (M.n : Int)) ∧ w = w' := by
  have c0 := h.cell 0
  simp only [List.getElem?_toArray, List.getElem?_cons_zero] at c0
  clear h
  go_enter Try.func29, Try.ntmps29
  go_wp2
  go_ret
  exact ⟨rfl, rfl⟩
theorem wait_any (p k : Nat) (pv : Value) (M : Dk) (w : World) (h : Ds w p k pv M) :
    Calls Try.prog 26 #[.pointer (some ⟨p, 0, none⟩)] w fun e w' => e = .returned (.int .i64 (M.pend.length : Int)) ∧ w = w' := by
  obtain ⟨A, cap, rfl⟩ := h.shape
  have c0 := h.cell 1
  simp only [List.getElem?_toArray, List.getElem?_cons_succ, List.getElem?_cons_zero] at c0
  clear h
  go_enter Try.func26, Try.ntmps26
  go_wp2
  go_ret
  exact ⟨rfl, rfl⟩
theorem down_any (p k : Nat) (pv : Value) (M : Dk) (w : World) (h : Ds w p k pv M) :
    Calls Try.prog 30 #[.pointer (some ⟨p, 0, none⟩)] w fun e w' => e = .returned (.bool M.down) ∧ w = w' := by
  have c0 := h.cell 7
  simp only [List.getElem?_toArray, List.getElem?_cons_succ, List.getElem?_cons_zero] at c0
  clear h
  go_enter Try.func30, Try.ntmps30
  go_wp2
  go_ret
  exact ⟨rfl, rfl⟩
theorem calls_any (p k : Nat) (pv : Value) (M : Dk) (w : World) (h : Ds w p k pv M) :
    Calls Try.prog 28 #[.pointer (some ⟨p, 0, none⟩)] w fun e w' => e = .returned (.int .i64 (M.calls : Int)) ∧ w = w' := by
  have c0 := h.cell 2
  simp only [List.getElem?_toArray, List.getElem?_cons_succ, List.getElem?_cons_zero] at c0
  clear h
  go_enter Try.func28, Try.ntmps28
  go_wp2
  go_ret
  exact ⟨rfl, rfl⟩
end Go.Proofs.Ytjkfgdeiciligaa
