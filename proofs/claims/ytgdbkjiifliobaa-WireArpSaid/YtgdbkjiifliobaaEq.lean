/-
  Two packets are compared field by field: what '==' and '!=' give of two of them; and the contracts of mac.None and mac.Group. Conditions: bytes are bytes.
-/
import Derived.Test.YtgdbkjiifliobaaRead
set_option linter.unusedSimpArgs false
namespace Go.Proofs.Ytgdbkjiifliobaa
open Go.RowKit

/-- Whether two numbers are the same. -/
def eq6 (a0 a1 a2 a3 a4 a5 b0 b1 b2 b3 b4 b5 : Int) : Bool := decide (a0 = b0 ∧ a1 = b1 ∧ a2 = b2 ∧ a3 = b3 ∧ a4 = b4 ∧ a5 = b5)

theorem run_each {P : Program} {W : World} (f : Nat → Bool) (body : Nat → Option Bool × Unit → Sem (ForInStep (Option Bool × Unit))) :
    ∀ ks : List Nat, (∀ k ∈ ks, (body k (none, ())).run P W = .ok (if f k = true then ForInStep.yield (none, ()) else ForInStep.done (some false, ())) W) →
      (forIn ks (none, ()) body).run P W = .ok (if ks.all f = true then (none, ()) else (some false, ())) W
  | [], _ => by simp [Sem.run_pure]
  | k :: ks, h => by
    have ih := run_each f body ks (fun j hj => h j (List.mem_cons_of_mem _ hj))
    rw [List.forIn_cons, Sem.run_bind, h k (List.mem_cons_self ..), Result.andThen_ok]
    cases hk : f k
    · simp [hk, Sem.run_pure]
    · simp only [if_true]
      rw [ih]
      simp [hk]

theorem run_eq6 (a0 a1 a2 a3 a4 a5 b0 b1 b2 b3 b4 b5 : Int) (d : Nat) (W : World) :
    (Op.equalIn (d + 2) 25 (.agg #[.int .u8 a0, .int .u8 a1, .int .u8 a2, .int .u8 a3, .int .u8 a4, .int .u8 a5]) (.agg #[.int .u8 b0, .int .u8 b1, .int .u8 b2, .int .u8 b3, .int .u8 b4, .int .u8 b5])).run Try.prog W = .ok (eq6 a0 a1 a2 a3 a4 a5 b0 b1 b2 b3 b4 b5) W := by
  show (Op.equalIn (d + 1 + 1) 25 _ _).run Try.prog W = _
  have he : ∀ (x y : Int), (Op.equalIn (d + 1) 5 (.int .u8 x) (.int .u8 y)).run Try.prog W = .ok (x == y) W := fun (x y : Int) => run_equalIn_int (P := Try.prog) W d 5 .u8 .u8 x y Try.underlying5
  have hs : (sizeOf 5).run Try.prog W = .ok 1 W := by simp [go_sem]
  have e1 : ∀ (xs : Array Value) (k : Nat) (x : Int), xs[k]? = some (.int .u8 x) → (part 5 xs (k * 1)).run Try.prog W = .ok (.int .u8 x) W := by
    intro xs k x h
    simp [part, go_sem, h]
  unfold Op.equalIn
  simp only [Sem.run_bind, run_underlying Try.underlying25, Result.andThen_ok, hs]
  have hl : List.range' 0 6 1 = [0, 1, 2, 3, 4, 5] := rfl
  rw [Std.Legacy.Range.forIn_eq_forIn_range']
  simp only [Std.Legacy.Range.size]
  simp only [Nat.sub_zero, Nat.add_one_sub_one, Nat.reduceAdd, Nat.reduceDiv, hl]
  have ae0 := e1 #[.int .u8 a0, .int .u8 a1, .int .u8 a2, .int .u8 a3, .int .u8 a4, .int .u8 a5] 0 a0 rfl
  have ae1 := e1 #[.int .u8 a0, .int .u8 a1, .int .u8 a2, .int .u8 a3, .int .u8 a4, .int .u8 a5] 1 a1 rfl
  have ae2 := e1 #[.int .u8 a0, .int .u8 a1, .int .u8 a2, .int .u8 a3, .int .u8 a4, .int .u8 a5] 2 a2 rfl
  have ae3 := e1 #[.int .u8 a0, .int .u8 a1, .int .u8 a2, .int .u8 a3, .int .u8 a4, .int .u8 a5] 3 a3 rfl
  have ae4 := e1 #[.int .u8 a0, .int .u8 a1, .int .u8 a2, .int .u8 a3, .int .u8 a4, .int .u8 a5] 4 a4 rfl
  have ae5 := e1 #[.int .u8 a0, .int .u8 a1, .int .u8 a2, .int .u8 a3, .int .u8 a4, .int .u8 a5] 5 a5 rfl
  have be0 := e1 #[.int .u8 b0, .int .u8 b1, .int .u8 b2, .int .u8 b3, .int .u8 b4, .int .u8 b5] 0 b0 rfl
  have be1 := e1 #[.int .u8 b0, .int .u8 b1, .int .u8 b2, .int .u8 b3, .int .u8 b4, .int .u8 b5] 1 b1 rfl
  have be2 := e1 #[.int .u8 b0, .int .u8 b1, .int .u8 b2, .int .u8 b3, .int .u8 b4, .int .u8 b5] 2 b2 rfl
  have be3 := e1 #[.int .u8 b0, .int .u8 b1, .int .u8 b2, .int .u8 b3, .int .u8 b4, .int .u8 b5] 3 b3 rfl
  have be4 := e1 #[.int .u8 b0, .int .u8 b1, .int .u8 b2, .int .u8 b3, .int .u8 b4, .int .u8 b5] 4 b4 rfl
  have be5 := e1 #[.int .u8 b0, .int .u8 b1, .int .u8 b2, .int .u8 b3, .int .u8 b4, .int .u8 b5] 5 b5 rfl
  rw [run_each (fun k => [a0, a1, a2, a3, a4, a5].getD k 0 == [b0, b1, b2, b3, b4, b5].getD k 0) _ [0, 1, 2, 3, 4, 5] (by
    intro k hk
    simp only [List.mem_cons, List.not_mem_nil, or_false] at hk
    rcases hk with rfl | rfl | rfl | rfl | rfl | rfl
    · simp only [Sem.run_bind, ae0, be0, he, Result.andThen_ok, Sem.run_ite, Sem.run_pure, List.getD_cons_zero]
      cases (a0 == b0) <;> rfl
    · simp only [Sem.run_bind, ae1, be1, he, Result.andThen_ok, Sem.run_ite, Sem.run_pure, List.getD_cons_zero, List.getD_cons_succ]
      cases (a1 == b1) <;> rfl
    · simp only [Sem.run_bind, ae2, be2, he, Result.andThen_ok, Sem.run_ite, Sem.run_pure, List.getD_cons_zero, List.getD_cons_succ]
      cases (a2 == b2) <;> rfl
    · simp only [Sem.run_bind, ae3, be3, he, Result.andThen_ok, Sem.run_ite, Sem.run_pure, List.getD_cons_zero, List.getD_cons_succ]
      cases (a3 == b3) <;> rfl
    · simp only [Sem.run_bind, ae4, be4, he, Result.andThen_ok, Sem.run_ite, Sem.run_pure, List.getD_cons_zero, List.getD_cons_succ]
      cases (a4 == b4) <;> rfl
    · simp only [Sem.run_bind, ae5, be5, he, Result.andThen_ok, Sem.run_ite, Sem.run_pure, List.getD_cons_zero, List.getD_cons_succ]
      cases (a5 == b5) <;> rfl), Result.andThen_ok]
  unfold eq6
  simp only [List.all_cons, List.all_nil, List.getD_cons_zero, List.getD_cons_succ, Bool.and_true]
  by_cases h : a0 = b0 ∧ a1 = b1 ∧ a2 = b2 ∧ a3 = b3 ∧ a4 = b4 ∧ a5 = b5
  · obtain ⟨rfl, rfl, rfl, rfl, rfl, rfl⟩ := h
    simp [Sem.run_pure]
  · rw [decide_eq_false h, if_neg (by simpa using h)]
    simp [Sem.run_pure]
theorem none_any (b0 b1 b2 b3 b4 b5 : Int) (w : World) :
    Calls Try.prog 13 #[.agg #[.int .u8 b0, .int .u8 b1, .int .u8 b2, .int .u8 b3, .int .u8 b4, .int .u8 b5]] w fun e w' => e = .returned (.bool (eq6 b0 b1 b2 b3 b4 b5 0 0 0 0 0 0)) ∧ Below w.heap.size w w' := by
  have hq := fun W => run_eq6 b0 b1 b2 b3 b4 b5 0 0 0 0 0 0 9998 W
  go_enter Try.func13, Try.ntmps13
  go_wp2
  go_ret
  exact ⟨rfl, (Below.refl _ _).alloc (Nat.le_refl _) _⟩
theorem and1 (b : Int) (h0 : 0 ≤ b) (h1 : b < 256) : bits .and .u8 b 1 = b % 2 := by
  rw [u8_and b 1 h0 h1 (by omega) (by omega)]
  have h : ∀ m : Fin 256, (m.val &&& 1) = m.val % 2 := by decide +kernel
  have := h ⟨b.toNat, by omega⟩
  simp only at this
  rw [show (1 : Int).toNat = 1 from rfl, this]
  omega
theorem group_any (b0 b1 b2 b3 b4 b5 : Int) (w : World) (h0 : 0 ≤ b0) (h1 : b0 < 256) :
    Calls Try.prog 14 #[.agg #[.int .u8 b0, .int .u8 b1, .int .u8 b2, .int .u8 b3, .int .u8 b4, .int .u8 b5]] w fun e w' => e = .returned (.bool (b0 % 2 == 1)) ∧ Below w.heap.size w w' := by
  have H := Lib.hid (and1 b0 h0 h1)
  go_enter Try.func14, Try.ntmps14
  go_wp2
  go_ret
  exact ⟨by rw [← H.out]; rfl, (Below.refl _ _).alloc (Nat.le_refl _) _⟩


/-- Whether two packets are the same. -/
def eqp (p q : Pk) : Bool := p.a == q.a && (p.f == q.f && (p.t == q.t && (eq6 p.m0 p.m1 p.m2 p.m3 p.m4 p.m5 q.m0 q.m1 q.m2 q.m3 q.m4 q.m5 && (p.i == q.i && p.s == q.s))))
theorem eqp_refl (p : Pk) : eqp p p = true := by simp [eqp, eq6]
theorem eqp_iff (p q : Pk) : eqp p q = true ↔ p = q := by
  obtain ⟨a, f, t, m0, m1, m2, m3, m4, m5, i, s⟩ := p
  obtain ⟨a', f', t', n0, n1, n2, n3, n4, n5, i', s'⟩ := q
  simp [eqp, eq6]
  omega
theorem cast_beq (a b : Nat) : ((a : Int) == (b : Int)) = (a == b) := by rw [Bool.eq_iff_iff, beq_iff_eq, beq_iff_eq]; omega
theorem run_eq27 (p q : Pk) (W : World) : (Op.equalIn 10000 27 (pv p) (pv q)).run Try.prog W = .ok (eqp p q) W := by
  have h6 := run_eq6 p.m0 p.m1 p.m2 p.m3 p.m4 p.m5 q.m0 q.m1 q.m2 q.m3 q.m4 q.m5 9997 W
  unfold pv
  rw [show (10000 : Nat) = 9999 + 1 from rfl, run_equalIn_struct W 9999 27 _ _ (by kernel_rfl) (by kernel_rfl)]
  simp [go_sem, h6, part]
  have e1 : ((p.f : Int) = (q.f : Int)) ↔ p.f = q.f := by omega
  have e2 : ((p.t : Int) = (q.t : Int)) ↔ p.t = q.t := by omega
  simp only [e1, e2]
  clear e1 e2 h6
  unfold eqp
  generalize eq6 _ _ _ _ _ _ _ _ _ _ _ _ = b
  by_cases h1 : p.a = q.a
  · by_cases h2 : p.f = q.f
    · by_cases h3 : p.t = q.t
      · cases b
        · simp [h1, h2, h3]
        · by_cases h4 : p.i = q.i
          · by_cases h5 : p.s = q.s
            · simp [h1, h2, h3, h4, h5]
            · simp [h1, h2, h3, h4, h5]
          · simp [h1, h2, h3, h4]
      · simp [h1, h2, h3]
    · simp [h1, h2]
  · simp [h1]
theorem run_eql27 (p q : Pk) (W : World) : (binOp .eql 27 (pv p) (pv q)).run Try.prog W = .ok (.bool (eqp p q)) W := by
  have := run_eql_struct (P := Try.prog) W 27 (pl p).toArray (pl q).toArray
  rw [show Value.agg (pl p).toArray = pv p from rfl, show Value.agg (pl q).toArray = pv q from rfl, run_eq27] at this
  exact this
theorem run_neq27 (p q : Pk) (W : World) : (binOp .neq 27 (pv p) (pv q)).run Try.prog W = .ok (.bool (!eqp p q)) W := by
  have := run_neq_struct (P := Try.prog) W 27 (pl p).toArray (pl q).toArray
  rw [show Value.agg (pl p).toArray = pv p from rfl, show Value.agg (pl q).toArray = pv q from rfl, run_eq27] at this
  exact this
theorem guard27 (op : BinOp) (x y : Operand) (p q : Pk) (W : World) : (eqGuard op 27 x y (pv p) (pv q)).run Try.prog W = .ok () W := run_eqGuard_agg W op 27 x y _ _ (by kernel_rfl)

section
variable {ops : Array Oper} {rest : List Oper} {o : Oper} {a : Act} {w : World} {Q : Exit → Act → World → Prop}
theorem wpList_want (hw : Region.wanted o (yielded ops a.tmps) = true) (h : ∀ K : Act → World → Prop, (∀ a w, wpList Try.prog ops Q rest a w → K a w) → o.wp Try.prog a w K Q) : wpList Try.prog ops Q (o :: rest) a w :=
  wpList_step fun K hK => by rw [if_pos hw]; exact h K hK
theorem at_load27g (x : Operand) (b : Nat) (p : Pk) (H : Pm w b p) (hw : Region.wanted o (yielded ops a.tmps) = true) (ho : o.op = .load 27 x) (hx : a.eval x = .pointer (some ⟨b, 0, none⟩))
    (h : wpList Try.prog ops Q rest (a.put o.dst (pv p)) w) : wpList Try.prog ops Q (o :: rest) a w :=
  wpList_want hw fun _ hK => by
    unfold Oper.wp execOp
    simp only [ho, hx, Sem.run_bind, Sem.run_pure, Result.andThen_ok, loadAt27 H]
    exact hK _ _ h
theorem at_eql27g (x y : Operand) (p q : Pk) (hw : Region.wanted o (yielded ops a.tmps) = true) (ho : o.op = .binOp .eql 27 x y 27) (hx : a.eval x = pv p) (hy : a.eval y = pv q)
    (h : wpList Try.prog ops Q rest (a.put o.dst (.bool (eqp p q))) w) : wpList Try.prog ops Q (o :: rest) a w :=
  wpList_want hw fun _ hK => by
    unfold Oper.wp execOp
    simp only [ho, hx, hy, Sem.run_bind, Sem.run_pure, Result.andThen_ok, guard27, run_eql27]
    exact hK _ _ h
theorem at_neq27g (x y : Operand) (p q : Pk) (hw : Region.wanted o (yielded ops a.tmps) = true) (ho : o.op = .binOp .neq 27 x y 27) (hx : a.eval x = pv p) (hy : a.eval y = pv q)
    (h : wpList Try.prog ops Q rest (a.put o.dst (.bool (!eqp p q))) w) : wpList Try.prog ops Q (o :: rest) a w :=
  wpList_want hw fun _ hK => by
    unfold Oper.wp execOp
    simp only [ho, hx, hy, Sem.run_bind, Sem.run_pure, Result.andThen_ok, guard27, run_neq27]
    exact hK _ _ h
end

section
variable {ops : Array Oper} {rest : List Oper} {o : Oper} {a : Act} {C : World → Prop} {Q : Act → Prop}
theorem quiet_load27 (x : Operand) (b : Nat) (p : Pk) (hr : ∀ W, C W → Pm W b p) (hw : Region.wanted o (yielded ops a.tmps) = true) (ho : o.op = .load 27 x) (hx : a.eval x = .pointer (some ⟨b, 0, none⟩)) (h : wpQuiet Try.prog ops C Q rest (a.put o.dst (pv p))) : wpQuiet Try.prog ops C Q (o :: rest) a :=
  BigFrame.wpQuiet_want hw fun K hK => ⟨pv p, fun W hC => by
    unfold Oper.quietAt execOp
    simp only [ho, hx, Sem.run_bind, Sem.run_pure, Result.andThen_ok, loadAt27 (hr W hC)]
    exact ⟨rfl, rfl⟩, hK _ h⟩
theorem quiet_eql27 (x y : Operand) (p q : Pk) (hw : Region.wanted o (yielded ops a.tmps) = true) (ho : o.op = .binOp .eql 27 x y 27) (hx : a.eval x = pv p) (hy : a.eval y = pv q) (h : wpQuiet Try.prog ops C Q rest (a.put o.dst (.bool (eqp p q)))) : wpQuiet Try.prog ops C Q (o :: rest) a :=
  BigFrame.wpQuiet_want hw fun K hK => ⟨.bool (eqp p q), fun W hC => by
    unfold Oper.quietAt execOp
    simp only [ho, hx, hy, Sem.run_bind, Sem.run_pure, Result.andThen_ok, guard27, run_eql27]
    exact ⟨rfl, rfl⟩, hK _ h⟩
end
end Go.Proofs.Ytgdbkjiifliobaa
