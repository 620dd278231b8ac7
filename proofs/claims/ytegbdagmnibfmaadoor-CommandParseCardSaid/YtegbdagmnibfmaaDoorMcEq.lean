/-
  Two numbers are compared byte by byte: what '==' gives of two values of api.Mac.
-/
import Derived.Test.YtegbdagmnibfmaaDoorMcPair
namespace Go.Proofs.YtegbdagmnibfmaaDoor.Mc
open Go.RowKit

/-- Whether two numbers are the same. -/
def eq6 (a0 a1 a2 a3 a4 a5 b0 b1 b2 b3 b4 b5 : Int) : Bool := decide (a0 = b0 ∧ a1 = b1 ∧ a2 = b2 ∧ a3 = b3 ∧ a4 = b4 ∧ a5 = b5)

theorem run_each {P : Program} {W : World} (f : Nat → Bool) (body : Nat → Option Bool × Unit → Sem (ForInStep (Option Bool × Unit))) :
    ∀ ks : List Nat, (∀ k ∈ ks, (body k (none, ())).run P W = .ok (if f k = true then ForInStep.yield (none, ()) else ForInStep.done (some false, ())) W) →
      (forIn ks (none, ()) body).run P W = .ok (if ks.all f = true then (none, ()) else (some false, ())) W
  | [], _ => by simp [Sem.run_pure]
  | k :: ks, h => by
    have ih := run_each f body ks (fun j hj => h j (List.mem_cons_of_mem _ hj))
    rw [List.forIn_cons, Sem.run_bind, h k (List.mem_cons_self ..), Result.andThen_ok]
    cases hk : f k
    · simp [hk, Sem.run_pure]
    · simp only [if_true]
      rw [ih]
      simp [hk]

theorem run_eq6 (a0 a1 a2 a3 a4 a5 b0 b1 b2 b3 b4 b5 : Int) (W : World) :
    (Op.equalIn 10000 32 (.agg #[.int .u8 a0, .int .u8 a1, .int .u8 a2, .int .u8 a3, .int .u8 a4, .int .u8 a5]) (.agg #[.int .u8 b0, .int .u8 b1, .int .u8 b2, .int .u8 b3, .int .u8 b4, .int .u8 b5])).run Tryd.prog W = .ok (eq6 a0 a1 a2 a3 a4 a5 b0 b1 b2 b3 b4 b5) W := by
  show (Op.equalIn (9999 + 1) 32 _ _).run Tryd.prog W = _
  have he : ∀ (x y : Int), (Op.equalIn 9999 5 (.int .u8 x) (.int .u8 y)).run Tryd.prog W = .ok (x == y) W := fun (x y : Int) => run_equalIn_int (P := Tryd.prog) W 9998 5 .u8 .u8 x y Tryd.underlying5
  have hs : (sizeOf 5).run Tryd.prog W = .ok 1 W := by simp [go_sem]
  have e1 : ∀ (xs : Array Value) (k : Nat) (x : Int), xs[k]? = some (.int .u8 x) → (part 5 xs (k * 1)).run Tryd.prog W = .ok (.int .u8 x) W := by
    intro xs k x h
    simp [part, go_sem, h]
  unfold Op.equalIn
  simp only [Sem.run_bind, run_underlying Tryd.underlying32, Result.andThen_ok, hs]
  have hl : List.range' 0 6 1 = [0, 1, 2, 3, 4, 5] := rfl
  rw [Std.Legacy.Range.forIn_eq_forIn_range']
  simp only [Std.Legacy.Range.size]
  simp only [Nat.sub_zero, Nat.add_one_sub_one, Nat.reduceAdd, Nat.reduceDiv, hl]
  have ae0 := e1 #[.int .u8 a0, .int .u8 a1, .int .u8 a2, .int .u8 a3, .int .u8 a4, .int .u8 a5] 0 a0 rfl
  have ae1 := e1 #[.int .u8 a0, .int .u8 a1, .int .u8 a2, .int .u8 a3, .int .u8 a4, .int .u8 a5] 1 a1 rfl
  have ae2 := e1 #[.int .u8 a0, .int .u8 a1, .int .u8 a2, .int .u8 a3, .int .u8 a4, .int .u8 a5] 2 a2 rfl
  have ae3 := e1 #[.int .u8 a0, .int .u8 a1, .int .u8 a2, .int .u8 a3, .int .u8 a4, .int .u8 a5] 3 a3 rfl
  have ae4 := e1 #[.int .u8 a0, .int .u8 a1, .int .u8 a2, .int .u8 a3, .int .u8 a4, .int .u8 a5] 4 a4 rfl
  have ae5 := e1 #[.int .u8 a0, .int .u8 a1, .int .u8 a2, .int .u8 a3, .int .u8 a4, .int .u8 a5] 5 a5 rfl
  have be0 := e1 #[.int .u8 b0, .int .u8 b1, .int .u8 b2, .int .u8 b3, .int .u8 b4, .int .u8 b5] 0 b0 rfl
  have be1 := e1 #[.int .u8 b0, .int .u8 b1, .int .u8 b2, .int .u8 b3, .int .u8 b4, .int .u8 b5] 1 b1 rfl
  have be2 := e1 #[.int .u8 b0, .int .u8 b1, .int .u8 b2, .int .u8 b3, .int .u8 b4, .int .u8 b5] 2 b2 rfl
  have be3 := e1 #[.int .u8 b0, .int .u8 b1, .int .u8 b2, .int .u8 b3, .int .u8 b4, .int .u8 b5] 3 b3 rfl
  have be4 := e1 #[.int .u8 b0, .int .u8 b1, .int .u8 b2, .int .u8 b3, .int .u8 b4, .int .u8 b5] 4 b4 rfl
  have be5 := e1 #[.int .u8 b0, .int .u8 b1, .int .u8 b2, .int .u8 b3, .int .u8 b4, .int .u8 b5] 5 b5 rfl
  rw [run_each (fun k => [a0, a1, a2, a3, a4, a5].getD k 0 == [b0, b1, b2, b3, b4, b5].getD k 0) _ [0, 1, 2, 3, 4, 5] (by
    intro k hk
    simp only [List.mem_cons, List.not_mem_nil, or_false] at hk
    rcases hk with rfl | rfl | rfl | rfl | rfl | rfl
    · simp only [Sem.run_bind, ae0, be0, he, Result.andThen_ok, Sem.run_ite, Sem.run_pure, List.getD_cons_zero]
      cases (a0 == b0) <;> rfl
    · simp only [Sem.run_bind, ae1, be1, he, Result.andThen_ok, Sem.run_ite, Sem.run_pure, List.getD_cons_zero, List.getD_cons_succ]
      cases (a1 == b1) <;> rfl
    · simp only [Sem.run_bind, ae2, be2, he, Result.andThen_ok, Sem.run_ite, Sem.run_pure, List.getD_cons_zero, List.getD_cons_succ]
      cases (a2 == b2) <;> rfl
    · simp only [Sem.run_bind, ae3, be3, he, Result.andThen_ok, Sem.run_ite, Sem.run_pure, List.getD_cons_zero, List.getD_cons_succ]
      cases (a3 == b3) <;> rfl
    · simp only [Sem.run_bind, ae4, be4, he, Result.andThen_ok, Sem.run_ite, Sem.run_pure, List.getD_cons_zero, List.getD_cons_succ]
      cases (a4 == b4) <;> rfl
    · simp only [Sem.run_bind, ae5, be5, he, Result.andThen_ok, Sem.run_ite, Sem.run_pure, List.getD_cons_zero, List.getD_cons_succ]
      cases (a5 == b5) <;> rfl), Result.andThen_ok]
  unfold eq6
  simp only [List.all_cons, List.all_nil, List.getD_cons_zero, List.getD_cons_succ, Bool.and_true]
  by_cases h : a0 = b0 ∧ a1 = b1 ∧ a2 = b2 ∧ a3 = b3 ∧ a4 = b4 ∧ a5 = b5
  · obtain ⟨rfl, rfl, rfl, rfl, rfl, rfl⟩ := h
    simp [Sem.run_pure]
  · rw [decide_eq_false h, if_neg (by simpa using h)]
    simp [Sem.run_pure]
end Go.Proofs.YtegbdagmnibfmaaDoor.Mc
