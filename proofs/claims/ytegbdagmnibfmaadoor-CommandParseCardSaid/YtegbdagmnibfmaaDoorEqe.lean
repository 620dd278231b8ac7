/-
  Events are compared, and loaded where a guard is met, or in a region that only reads. No condition.
-/
import Derived.Test.YtegbdagmnibfmaaDoorEv
set_option linter.unusedSimpArgs false
set_option linter.unusedVariables false
namespace Go.Proofs.YtegbdagmnibfmaaDoor
open Go.RowKit

theorem run_each {P : Program} {W : World} (f : Nat → Bool) (body : Nat → Option Bool × Unit → Sem (ForInStep (Option Bool × Unit))) :
    ∀ ks : List Nat, (∀ k ∈ ks, (body k (none, ())).run P W = .ok (if f k = true then ForInStep.yield (none, ()) else ForInStep.done (some false, ())) W) →
      (forIn ks (none, ()) body).run P W = .ok (if ks.all f = true then (none, ()) else (some false, ())) W
  | [], _ => by simp [Sem.run_pure]
  | k :: ks, h => by
    have ih := run_each f body ks (fun j hj => h j (List.mem_cons_of_mem _ hj))
    rw [List.forIn_cons, Sem.run_bind, h k (List.mem_cons_self ..), Result.andThen_ok]
    cases hk : f k
    · simp [hk, Sem.run_pure]
    · simp only [if_true]
      rw [ih]
      simp [hk]

theorem run_eq6 (a0 a1 a2 a3 a4 a5 b0 b1 b2 b3 b4 b5 : Int) (d : Nat) (W : World) :
    (Op.equalIn (d + 2) 32 (.agg #[.int .u8 a0, .int .u8 a1, .int .u8 a2, .int .u8 a3, .int .u8 a4, .int .u8 a5]) (.agg #[.int .u8 b0, .int .u8 b1, .int .u8 b2, .int .u8 b3, .int .u8 b4, .int .u8 b5])).run Tryd.prog W = .ok (Mc.eq6 a0 a1 a2 a3 a4 a5 b0 b1 b2 b3 b4 b5) W := by
  show (Op.equalIn (d + 1 + 1) 32 _ _).run Tryd.prog W = _
  have he : ∀ (x y : Int), (Op.equalIn (d + 1) 5 (.int .u8 x) (.int .u8 y)).run Tryd.prog W = .ok (x == y) W := fun (x y : Int) => run_equalIn_int (P := Tryd.prog) W d 5 .u8 .u8 x y Tryd.underlying5
  have hs : (sizeOf 5).run Tryd.prog W = .ok 1 W := by simp [go_sem]
  have e1 : ∀ (xs : Array Value) (k : Nat) (x : Int), xs[k]? = some (.int .u8 x) → (part 5 xs (k * 1)).run Tryd.prog W = .ok (.int .u8 x) W := by
    intro xs k x h
    simp [part, go_sem, h]
  unfold Op.equalIn
  simp only [Sem.run_bind, run_underlying Tryd.underlying32, Result.andThen_ok, hs]
  have hl : List.range' 0 6 1 = [0, 1, 2, 3, 4, 5] := rfl
  rw [Std.Legacy.Range.forIn_eq_forIn_range']
  simp only [Std.Legacy.Range.size]
  simp only [Nat.sub_zero, Nat.add_one_sub_one, Nat.reduceAdd, Nat.reduceDiv, hl]
  have ae0 := e1 #[.int .u8 a0, .int .u8 a1, .int .u8 a2, .int .u8 a3, .int .u8 a4, .int .u8 a5] 0 a0 rfl
  have ae1 := e1 #[.int .u8 a0, .int .u8 a1, .int .u8 a2, .int .u8 a3, .int .u8 a4, .int .u8 a5] 1 a1 rfl
  have ae2 := e1 #[.int .u8 a0, .int .u8 a1, .int .u8 a2, .int .u8 a3, .int .u8 a4, .int .u8 a5] 2 a2 rfl
  have ae3 := e1 #[.int .u8 a0, .int .u8 a1, .int .u8 a2, .int .u8 a3, .int .u8 a4, .int .u8 a5] 3 a3 rfl
  have ae4 := e1 #[.int .u8 a0, .int .u8 a1, .int .u8 a2, .int .u8 a3, .int .u8 a4, .int .u8 a5] 4 a4 rfl
  have ae5 := e1 #[.int .u8 a0, .int .u8 a1, .int .u8 a2, .int .u8 a3, .int .u8 a4, .int .u8 a5] 5 a5 rfl
  have be0 := e1 #[.int .u8 b0, .int .u8 b1, .int .u8 b2, .int .u8 b3, .int .u8 b4, .int .u8 b5] 0 b0 rfl
  have be1 := e1 #[.int .u8 b0, .int .u8 b1, .int .u8 b2, .int .u8 b3, .int .u8 b4, .int .u8 b5] 1 b1 rfl
  have be2 := e1 #[.int .u8 b0, .int .u8 b1, .int .u8 b2, .int .u8 b3, .int .u8 b4, .int .u8 b5] 2 b2 rfl
  have be3 := e1 #[.int .u8 b0, .int .u8 b1, .int .u8 b2, .int .u8 b3, .int .u8 b4, .int .u8 b5] 3 b3 rfl
  have be4 := e1 #[.int .u8 b0, .int .u8 b1, .int .u8 b2, .int .u8 b3, .int .u8 b4, .int .u8 b5] 4 b4 rfl
  have be5 := e1 #[.int .u8 b0, .int .u8 b1, .int .u8 b2, .int .u8 b3, .int .u8 b4, .int .u8 b5] 5 b5 rfl
  rw [run_each (fun k => [a0, a1, a2, a3, a4, a5].getD k 0 == [b0, b1, b2, b3, b4, b5].getD k 0) _ [0, 1, 2, 3, 4, 5] (by
    intro k hk
    simp only [List.mem_cons, List.not_mem_nil, or_false] at hk
    rcases hk with rfl | rfl | rfl | rfl | rfl | rfl
    · simp only [Sem.run_bind, ae0, be0, he, Result.andThen_ok, Sem.run_ite, Sem.run_pure, List.getD_cons_zero]
      cases (a0 == b0) <;> rfl
    · simp only [Sem.run_bind, ae1, be1, he, Result.andThen_ok, Sem.run_ite, Sem.run_pure, List.getD_cons_zero, List.getD_cons_succ]
      cases (a1 == b1) <;> rfl
    · simp only [Sem.run_bind, ae2, be2, he, Result.andThen_ok, Sem.run_ite, Sem.run_pure, List.getD_cons_zero, List.getD_cons_succ]
      cases (a2 == b2) <;> rfl
    · simp only [Sem.run_bind, ae3, be3, he, Result.andThen_ok, Sem.run_ite, Sem.run_pure, List.getD_cons_zero, List.getD_cons_succ]
      cases (a3 == b3) <;> rfl
    · simp only [Sem.run_bind, ae4, be4, he, Result.andThen_ok, Sem.run_ite, Sem.run_pure, List.getD_cons_zero, List.getD_cons_succ]
      cases (a4 == b4) <;> rfl
    · simp only [Sem.run_bind, ae5, be5, he, Result.andThen_ok, Sem.run_ite, Sem.run_pure, List.getD_cons_zero, List.getD_cons_succ]
      cases (a5 == b5) <;> rfl), Result.andThen_ok]
  unfold Mc.eq6
  simp only [List.all_cons, List.all_nil, List.getD_cons_zero, List.getD_cons_succ, Bool.and_true]
  by_cases h : a0 = b0 ∧ a1 = b1 ∧ a2 = b2 ∧ a3 = b3 ∧ a4 = b4 ∧ a5 = b5
  · obtain ⟨rfl, rfl, rfl, rfl, rfl, rfl⟩ := h
    simp [Sem.run_pure]
  · rw [decide_eq_false h, if_neg (by simpa using h)]
    simp [Sem.run_pure]


/-- Whether two events are the same. -/
def eqE (x y : Ev) : Bool := (x.k == y.k) && ((x.a == y.a) && (x.o.toList == y.o.toList) && Mc.eq6 x.c0 x.c1 x.c2 x.c3 x.c4 x.c5 y.c0 y.c1 y.c2 y.c3 y.c4 y.c5) && ((x.b == y.b) && (x.n == y.n))
set_option maxHeartbeats 1000000 in
theorem run_eqE (x y : Ev) (W : World) : (Op.equalIn 10000 41 (evv x) (evv y)).run Tryd.prog W = .ok (eqE x y) W := by
  have h6 := run_eq6 x.c0 x.c1 x.c2 x.c3 x.c4 x.c5 y.c0 y.c1 y.c2 y.c3 y.c4 y.c5 9996 W
  have h60 := run_eq6 0 0 0 0 0 0 0 0 0 0 0 0 9996 W
  rw [show Mc.eq6 0 0 0 0 0 0 0 0 0 0 0 0 = true from by decide] at h60
  unfold evv eqE
  generalize Mc.eq6 x.c0 x.c1 x.c2 x.c3 x.c4 x.c5 y.c0 y.c1 y.c2 y.c3 y.c4 y.c5 = T at *
  rw [show (10000 : Nat) = 9999 + 1 from rfl, run_equalIn_struct W 9999 41 _ _ (by kernel_rfl) (by kernel_rfl)]
  simp [go_sem, h6, h60, part]
  by_cases h1 : x.k = y.k
  · by_cases h2 : x.a = y.a
    · by_cases h3 : x.o.toList = y.o.toList
      · cases T
        · simp [h1, h2, h3]
        · by_cases h4 : x.b = y.b
          · by_cases h5 : x.n = y.n
            · simp [h1, h2, h3, h4, h5]
            · simp [h1, h2, h3, h4, h5]
          · simp [h1, h2, h3, h4]
      · simp [h1, h2, h3]
    · simp [h1, h2]
  · simp [h1]
theorem eqE_refl (x : Ev) : eqE x x = true := by simp [eqE, Mc.eq6]
theorem eqE_iff {x y : Ev} : eqE x y = true ↔ x = y := by
  constructor
  · intro h
    unfold eqE at h
    simp only [Bool.and_eq_true, beq_iff_eq] at h
    obtain ⟨⟨h1, ⟨h2, h3⟩, h4⟩, h5, h6⟩ := h
    unfold Mc.eq6 at h4
    obtain ⟨c0, c1, c2, c3, c4, c5⟩ := of_decide_eq_true h4
    have ho : x.o = y.o := by
      have := congrArg (fun l => (⟨l.toArray⟩ : ByteArray)) h3
      simp only [ByteArray.toList_eq] at this
      exact ByteArray.ext (by simpa using this)
    cases x
    cases y
    simp only at *
    subst h1 h2 ho c0 c1 c2 c3 c4 c5 h5 h6
    rfl
  · rintro rfl
    exact eqE_refl x
theorem run_eqlE (x y : Ev) (W : World) : (binOp .eql 41 (evv x) (evv y)).run Tryd.prog W = .ok (.bool (eqE x y)) W := by
  have := run_eql_struct (P := Tryd.prog) W 41 (evl x).toArray (evl y).toArray
  rw [show Value.agg (evl x).toArray = evv x from rfl, show Value.agg (evl y).toArray = evv y from rfl, run_eqE] at this
  exact this
theorem run_neqE (x y : Ev) (W : World) : (binOp .neq 41 (evv x) (evv y)).run Tryd.prog W = .ok (.bool (!eqE x y)) W := by
  have := run_neq_struct (P := Tryd.prog) W 41 (evl x).toArray (evl y).toArray
  rw [show Value.agg (evl x).toArray = evv x from rfl, show Value.agg (evl y).toArray = evv y from rfl, run_eqE] at this
  exact this
theorem guardE (op : BinOp) (u v : Operand) (x y : Ev) (W : World) : (eqGuard op 41 u v (evv x) (evv y)).run Tryd.prog W = .ok () W := run_eqGuard_agg W op 41 u v _ _ (by kernel_rfl)
theorem load41 {w : World} {b : Nat} {x : Ev} (h : Cx w b (evl x)) : (Instr.loadAt 41 (.pointer (some ⟨b, 0, none⟩))).run Tryd.prog w = .ok (evv x) w := by
  simp only [Instr.loadAt, Instr.sureAddr, Sem.run_bind, Sem.run_pure, Result.andThen_ok, loadv41 h]
section
variable {ops : Array Oper} {rest : List Oper} {op : Oper} {a : Act} {w : World} {Q : Exit → Act → World → Prop}
theorem wpList_want (hw : Region.wanted op (yielded ops a.tmps) = true) (h : ∀ K : Act → World → Prop, (∀ a w, wpList Tryd.prog ops Q rest a w → K a w) → op.wp Tryd.prog a w K Q) : wpList Tryd.prog ops Q (op :: rest) a w :=
  wpList_step fun K hK => by rw [if_pos hw]; exact h K hK
/-- An event is loaded, where the guard is met. -/
theorem at_load41g (x : Operand) (b : Nat) (p : Ev) (H : Cx w b (evl p)) (hw : Region.wanted op (yielded ops a.tmps) = true) (ho : op.op = .load 41 x) (hx : a.eval x = .pointer (some ⟨b, 0, none⟩)) (h : wpList Tryd.prog ops Q rest (a.put op.dst (evv p)) w) : wpList Tryd.prog ops Q (op :: rest) a w :=
  wpList_want hw fun _ hK => by
    unfold Oper.wp execOp
    simp only [ho, hx, Sem.run_bind, Sem.run_pure, Result.andThen_ok, load41 H]
    exact hK _ _ h
theorem at_neq41 (x y : Operand) (p q : Ev) (hw : Region.wanted op (yielded ops a.tmps) = true) (ho : op.op = .binOp .neq 41 x y 41) (hx : a.eval x = evv p) (hy : a.eval y = evv q)
    (h : wpList Tryd.prog ops Q rest (a.put op.dst (.bool (!eqE p q))) w) : wpList Tryd.prog ops Q (op :: rest) a w :=
  wpList_want hw fun _ hK => by
    unfold Oper.wp execOp
    simp only [ho, hx, hy, Sem.run_bind, Sem.run_pure, Result.andThen_ok, guardE, run_neqE]
    exact hK _ _ h
end
section
variable {ops : Array Oper} {rest : List Oper} {o : Oper} {a : Act} {C : World → Prop} {Q : Act → Prop}
theorem quiet_load41 (x : Operand) (b : Nat) (p : Ev) (hr : ∀ W, C W → Cx W b (evl p)) (hw : Region.wanted o (yielded ops a.tmps) = true) (ho : o.op = .load 41 x) (hx : a.eval x = .pointer (some ⟨b, 0, none⟩)) (h : wpQuiet Tryd.prog ops C Q rest (a.put o.dst (evv p))) : wpQuiet Tryd.prog ops C Q (o :: rest) a :=
  BigFrame.wpQuiet_want hw fun K hK => ⟨evv p, fun W hC => by
    unfold Oper.quietAt execOp
    simp only [ho, hx, Sem.run_bind, Sem.run_pure, Result.andThen_ok, load41 (hr W hC)]
    exact ⟨rfl, rfl⟩, hK _ h⟩
theorem quiet_eql41 (x y : Operand) (p q : Ev) (hw : Region.wanted o (yielded ops a.tmps) = true) (ho : o.op = .binOp .eql 41 x y 41) (hx : a.eval x = evv p) (hy : a.eval y = evv q) (h : wpQuiet Tryd.prog ops C Q rest (a.put o.dst (.bool (eqE p q)))) : wpQuiet Tryd.prog ops C Q (o :: rest) a :=
  BigFrame.wpQuiet_want hw fun K hK => ⟨.bool (eqE p q), fun W hC => by
    unfold Oper.quietAt execOp
    simp only [ho, hx, hy, Sem.run_bind, Sem.run_pure, Result.andThen_ok, guardE, run_eqlE]
    exact ⟨rfl, rfl⟩, hK _ h⟩
end
end Go.Proofs.YtegbdagmnibfmaaDoor
