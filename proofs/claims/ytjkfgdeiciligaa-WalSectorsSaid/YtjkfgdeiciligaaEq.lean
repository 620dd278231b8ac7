/-
  Two sectors are compared byte by byte: what '==' and '!=' give of two of them. No condition.
-/
import Derived.Test.YtjkfgdeiciligaaAwake
set_option linter.unusedSimpArgs false
namespace Go.Proofs.Ytjkfgdeiciligaa
open Go.RowKit

/-- Whether two sectors have the same bytes. -/
def eq64 (a b : Nat → Nat) : Bool := (List.range 64).all fun j => a j == b j
theorem eq64_true {a b : Nat → Nat} (h : ∀ j, j < 64 → a j = b j) : eq64 a b = true := by
  unfold eq64
  rw [List.all_eq_true]
  intro j hj
  rw [beq_iff_eq]
  exact h j (List.mem_range.1 hj)
theorem eq64_refl (a : Nat → Nat) : eq64 a a = true := eq64_true fun _ _ => rfl

theorem run_each {P : Program} {W : World} (f : Nat → Bool) (body : Nat → Option Bool × Unit → Sem (ForInStep (Option Bool × Unit))) :
    ∀ ks : List Nat, (∀ k ∈ ks, (body k (none, ())).run P W = .ok (if f k = true then ForInStep.yield (none, ()) else ForInStep.done (some false, ())) W) →
      (forIn ks (none, ()) body).run P W = .ok (if ks.all f = true then (none, ()) else (some false, ())) W
  | [], _ => by simp [Sem.run_pure]
  | k :: ks, h => by
    have ih := run_each f body ks (fun j hj => h j (List.mem_cons_of_mem _ hj))
    rw [List.forIn_cons, Sem.run_bind, h k (List.mem_cons_self ..), Result.andThen_ok]
    cases hk : f k
    · simp [hk, Sem.run_pure]
    · simp only [if_true]
      rw [ih]
      simp [hk]

theorem run_eq64 (a b : Nat → Nat) (W : World) : (Op.equalIn 10000 52 (sv a) (sv b)).run Try.prog W = .ok (eq64 a b) W := by
  show (Op.equalIn (9999 + 1) 52 _ _).run Try.prog W = _
  have he : ∀ (x y : Int), (Op.equalIn 9999 5 (.int .u8 x) (.int .u8 y)).run Try.prog W = .ok (x == y) W := fun (x y : Int) => run_equalIn_int (P := Try.prog) W 9998 5 .u8 .u8 x y Try.underlying5
  have hs : (sizeOf 5).run Try.prog W = .ok 1 W := by simp [go_sem]
  have e1 : ∀ (s : Nat → Nat) (k : Nat), k < 64 → (part 5 (sc s).toArray (k * 1)).run Try.prog W = .ok (.int .u8 (s k : Int)) W := by
    intro s k hk
    have := sc_get (s := s) hk
    simp [part, go_sem, this]
  unfold Op.equalIn sv
  simp only [Sem.run_bind, run_underlying Try.underlying52, Result.andThen_ok, hs]
  rw [Std.Legacy.Range.forIn_eq_forIn_range']
  simp only [Std.Legacy.Range.size]
  simp only [Nat.sub_zero, Nat.add_one_sub_one, Nat.reduceAdd, Nat.reduceDiv]
  rw [run_each (fun k => a k == b k) _ (List.range' 0 64 1) (by
    intro k hk
    have hk : k < 64 := by simpa using List.mem_range'_1.1 hk
    simp only [Sem.run_bind, e1 a k hk, e1 b k hk, he, Result.andThen_ok, Sem.run_ite, Sem.run_pure]
    have e : ((a k : Int) == (b k : Int)) = (a k == b k) := by rw [Bool.eq_iff_iff, beq_iff_eq, beq_iff_eq]; omega
    rw [e]
    cases (a k == b k) <;> rfl)]
  unfold eq64
  rw [List.range_eq_range']
  simp only [Result.andThen_ok]
  cases (List.range' 0 64 1).all (fun k => a k == b k) <;> simp [Sem.run_pure]
theorem run_eql64 (a b : Nat → Nat) (W : World) : (binOp .eql 52 (sv a) (sv b)).run Try.prog W = .ok (.bool (eq64 a b)) W := by
  have := run_eql_struct (P := Try.prog) W 52 (sc a).toArray (sc b).toArray
  rw [show Value.agg (sc a).toArray = sv a from rfl, show Value.agg (sc b).toArray = sv b from rfl, run_eq64] at this
  exact this
theorem run_neq64 (a b : Nat → Nat) (W : World) : (binOp .neq 52 (sv a) (sv b)).run Try.prog W = .ok (.bool (!eq64 a b)) W := by
  have := run_neq_struct (P := Try.prog) W 52 (sc a).toArray (sc b).toArray
  rw [show Value.agg (sc a).toArray = sv a from rfl, show Value.agg (sc b).toArray = sv b from rfl, run_eq64] at this
  exact this

theorem guard64 (op : BinOp) (x y : Operand) (a b : Nat → Nat) (W : World) : (eqGuard op 52 x y (sv a) (sv b)).run Try.prog W = .ok () W := run_eqGuard_agg W op 52 x y _ _ (by kernel_rfl)

section
variable {ops : Array Oper} {rest : List Oper} {op : Oper} {a : Act} {w : World} {Q : Exit → Act → World → Prop}
theorem wpList_want (hw : Region.wanted op (yielded ops a.tmps) = true) (h : ∀ K : Act → World → Prop, (∀ a w, wpList Try.prog ops Q rest a w → K a w) → op.wp Try.prog a w K Q) : wpList Try.prog ops Q (op :: rest) a w :=
  wpList_step fun K hK => by rw [if_pos hw]; exact h K hK
/-- A sector is loaded, where the guard is met. -/
theorem at_load38g (x : Operand) (hw : Region.wanted op (yielded ops a.tmps) = true) (ho : op.op = .load 52 x) (b o : Nat) (s : Nat → Nat) (hx : a.eval x = .pointer (some ⟨b, o, none⟩)) (hr : w.rangeAt b o (sc s)) (h : wpList Try.prog ops Q rest (a.put op.dst (sv s)) w) : wpList Try.prog ops Q (op :: rest) a w :=
  wpList_want hw fun _ hK => by
    unfold Oper.wp execOp
    simp only [ho, hx, Sem.run_bind, Sem.run_pure, Result.andThen_ok, load38 hr]
    exact hK _ _ h
theorem at_build38g (hw : Region.wanted op (yielded ops a.tmps) = true) (ho : op.op = .build 52 #[]) (h : wpList Try.prog ops Q rest (a.put op.dst (sv zer)) w) : wpList Try.prog ops Q (op :: rest) a w :=
  wpList_want hw fun _ hK => by
    unfold Oper.wp execOp
    simp only [ho, Sem.run_bind, Sem.run_pure, Result.andThen_ok, Array.map_empty, build38]
    exact hK _ _ h
end

section
variable {ops : Array Oper} {rest : List Oper} {op : Oper} {a : Act} {C : World → Prop} {Q : Act → Prop}
/-- A sector is loaded in a region that only reads. -/
theorem quiet_load38 (x : Operand) (hw : Region.wanted op (yielded ops a.tmps) = true) (ho : op.op = .load 52 x) (b o : Nat) (s : Nat → Nat) (hx : a.eval x = .pointer (some ⟨b, o, none⟩)) (hr : ∀ W, C W → W.rangeAt b o (sc s)) (h : wpQuiet Try.prog ops C Q rest (a.put op.dst (sv s))) : wpQuiet Try.prog ops C Q (op :: rest) a :=
  BigFrame.wpQuiet_want hw fun K hK => ⟨sv s, fun W hC => by
    unfold Oper.quietAt execOp
    simp only [ho, hx, Sem.run_bind, Sem.run_pure, Result.andThen_ok, load38 (hr W hC)]
    exact ⟨rfl, rfl⟩, hK _ h⟩
theorem quiet_eql38 (x y : Operand) (hw : Region.wanted op (yielded ops a.tmps) = true) (ho : op.op = .binOp .eql 52 x y 52) (s t : Nat → Nat) (hx : a.eval x = sv s) (hy : a.eval y = sv t) (h : wpQuiet Try.prog ops C Q rest (a.put op.dst (.bool (eq64 s t)))) : wpQuiet Try.prog ops C Q (op :: rest) a :=
  BigFrame.wpQuiet_want hw fun K hK => ⟨.bool (eq64 s t), fun W hC => by
    unfold Oper.quietAt execOp
    simp only [ho, hx, hy, Sem.run_bind, Sem.run_pure, Result.andThen_ok, guard64, run_eql64]
    exact ⟨rfl, rfl⟩, hK _ h⟩
theorem quiet_neq38 (x y : Operand) (hw : Region.wanted op (yielded ops a.tmps) = true) (ho : op.op = .binOp .neq 52 x y 52) (s t : Nat → Nat) (hx : a.eval x = sv s) (hy : a.eval y = sv t) (h : wpQuiet Try.prog ops C Q rest (a.put op.dst (.bool (!eq64 s t)))) : wpQuiet Try.prog ops C Q (op :: rest) a :=
  BigFrame.wpQuiet_want hw fun K hK => ⟨.bool (!eq64 s t), fun W hC => by
    unfold Oper.quietAt execOp
    simp only [ho, hx, hy, Sem.run_bind, Sem.run_pure, Result.andThen_ok, guard64, run_neq64]
    exact ⟨rfl, rfl⟩, hK _ h⟩
end
end Go.Proofs.Ytjkfgdeiciligaa
