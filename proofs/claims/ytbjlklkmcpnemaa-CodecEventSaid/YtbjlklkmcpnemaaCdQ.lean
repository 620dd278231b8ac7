/-
  Events that are compared with themselves; the contracts of the statements' own may and bare. Conditions: an event's numbers are of their sizes.
-/
import Derived.Test.YtbjlklkmcpnemaaCdZ
import Derived.Test.YtbjlklkmcpnemaaCdK
import Derived.BigGuard
set_option linter.unusedSimpArgs false
set_option linter.unusedVariables false
namespace Go.Proofs.Ytbjlklkmcpnemaa
open Go.RowKit

def eq6 (a0 a1 a2 a3 a4 a5 b0 b1 b2 b3 b4 b5 : Int) : Bool := decide (a0 = b0 ∧ a1 = b1 ∧ a2 = b2 ∧ a3 = b3 ∧ a4 = b4 ∧ a5 = b5)

theorem run_each {P : Program} {W : World} (f : Nat → Bool) (body : Nat → Option Bool × Unit → Sem (ForInStep (Option Bool × Unit))) :
    ∀ ks : List Nat, (∀ k ∈ ks, (body k (none, ())).run P W = .ok (if f k = true then ForInStep.yield (none, ()) else ForInStep.done (some false, ())) W) →
      (forIn ks (none, ()) body).run P W = .ok (if ks.all f = true then (none, ()) else (some false, ())) W
  | [], _ => by simp [Sem.run_pure]
  | k :: ks, h => by
    have ih := run_each f body ks (fun j hj => h j (List.mem_cons_of_mem _ hj))
    rw [List.forIn_cons, Sem.run_bind, h k (List.mem_cons_self ..), Result.andThen_ok]
    cases hk : f k
    · simp [hk, Sem.run_pure]
    · simp only [if_true]
      rw [ih]
      simp [hk]

theorem run_eq6 (a0 a1 a2 a3 a4 a5 b0 b1 b2 b3 b4 b5 : Int) (d : Nat) (W : World) :
    (Op.equalIn (d + 2) 26 (.agg #[.int .u8 a0, .int .u8 a1, .int .u8 a2, .int .u8 a3, .int .u8 a4, .int .u8 a5]) (.agg #[.int .u8 b0, .int .u8 b1, .int .u8 b2, .int .u8 b3, .int .u8 b4, .int .u8 b5])).run Try.prog W = .ok (eq6 a0 a1 a2 a3 a4 a5 b0 b1 b2 b3 b4 b5) W := by
  show (Op.equalIn (d + 1 + 1) 26 _ _).run Try.prog W = _
  have he : ∀ (x y : Int), (Op.equalIn (d + 1) 5 (.int .u8 x) (.int .u8 y)).run Try.prog W = .ok (x == y) W := fun (x y : Int) => run_equalIn_int (P := Try.prog) W d 5 .u8 .u8 x y Try.underlying5
  have hs : (Go.sizeOf 5).run Try.prog W = .ok 1 W := by simp [go_sem]
  have e1 : ∀ (xs : Array Value) (k : Nat) (x : Int), xs[k]? = some (.int .u8 x) → (part 5 xs (k * 1)).run Try.prog W = .ok (.int .u8 x) W := by
    intro xs k x h
    simp [part, go_sem, h]
  unfold Op.equalIn
  simp only [Sem.run_bind, run_underlying Try.underlying26, Result.andThen_ok, hs]
  have hl : List.range' 0 6 1 = [0, 1, 2, 3, 4, 5] := rfl
  rw [Std.Legacy.Range.forIn_eq_forIn_range']
  simp only [Std.Legacy.Range.size]
  simp only [Nat.sub_zero, Nat.add_one_sub_one, Nat.reduceAdd, Nat.reduceDiv, hl]
  have ae0 := e1 #[.int .u8 a0, .int .u8 a1, .int .u8 a2, .int .u8 a3, .int .u8 a4, .int .u8 a5] 0 a0 rfl
  have ae1 := e1 #[.int .u8 a0, .int .u8 a1, .int .u8 a2, .int .u8 a3, .int .u8 a4, .int .u8 a5] 1 a1 rfl
  have ae2 := e1 #[.int .u8 a0, .int .u8 a1, .int .u8 a2, .int .u8 a3, .int .u8 a4, .int .u8 a5] 2 a2 rfl
  have ae3 := e1 #[.int .u8 a0, .int .u8 a1, .int .u8 a2, .int .u8 a3, .int .u8 a4, .int .u8 a5] 3 a3 rfl
  have ae4 := e1 #[.int .u8 a0, .int .u8 a1, .int .u8 a2, .int .u8 a3, .int .u8 a4, .int .u8 a5] 4 a4 rfl
  have ae5 := e1 #[.int .u8 a0, .int .u8 a1, .int .u8 a2, .int .u8 a3, .int .u8 a4, .int .u8 a5] 5 a5 rfl
  have be0 := e1 #[.int .u8 b0, .int .u8 b1, .int .u8 b2, .int .u8 b3, .int .u8 b4, .int .u8 b5] 0 b0 rfl
  have be1 := e1 #[.int .u8 b0, .int .u8 b1, .int .u8 b2, .int .u8 b3, .int .u8 b4, .int .u8 b5] 1 b1 rfl
  have be2 := e1 #[.int .u8 b0, .int .u8 b1, .int .u8 b2, .int .u8 b3, .int .u8 b4, .int .u8 b5] 2 b2 rfl
  have be3 := e1 #[.int .u8 b0, .int .u8 b1, .int .u8 b2, .int .u8 b3, .int .u8 b4, .int .u8 b5] 3 b3 rfl
  have be4 := e1 #[.int .u8 b0, .int .u8 b1, .int .u8 b2, .int .u8 b3, .int .u8 b4, .int .u8 b5] 4 b4 rfl
  have be5 := e1 #[.int .u8 b0, .int .u8 b1, .int .u8 b2, .int .u8 b3, .int .u8 b4, .int .u8 b5] 5 b5 rfl
  rw [run_each (fun k => [a0, a1, a2, a3, a4, a5].getD k 0 == [b0, b1, b2, b3, b4, b5].getD k 0) _ [0, 1, 2, 3, 4, 5] (by
    intro k hk
    simp only [List.mem_cons, List.not_mem_nil, or_false] at hk
    rcases hk with rfl | rfl | rfl | rfl | rfl | rfl
    · simp only [Sem.run_bind, ae0, be0, he, Result.andThen_ok, Sem.run_ite, Sem.run_pure, List.getD_cons_zero]
      cases (a0 == b0) <;> rfl
    · simp only [Sem.run_bind, ae1, be1, he, Result.andThen_ok, Sem.run_ite, Sem.run_pure, List.getD_cons_zero, List.getD_cons_succ]
      cases (a1 == b1) <;> rfl
    · simp only [Sem.run_bind, ae2, be2, he, Result.andThen_ok, Sem.run_ite, Sem.run_pure, List.getD_cons_zero, List.getD_cons_succ]
      cases (a2 == b2) <;> rfl
    · simp only [Sem.run_bind, ae3, be3, he, Result.andThen_ok, Sem.run_ite, Sem.run_pure, List.getD_cons_zero, List.getD_cons_succ]
      cases (a3 == b3) <;> rfl
    · simp only [Sem.run_bind, ae4, be4, he, Result.andThen_ok, Sem.run_ite, Sem.run_pure, List.getD_cons_zero, List.getD_cons_succ]
      cases (a4 == b4) <;> rfl
    · simp only [Sem.run_bind, ae5, be5, he, Result.andThen_ok, Sem.run_ite, Sem.run_pure, List.getD_cons_zero, List.getD_cons_succ]
      cases (a5 == b5) <;> rfl), Result.andThen_ok]
  unfold eq6
  simp only [List.all_cons, List.all_nil, List.getD_cons_zero, List.getD_cons_succ, Bool.and_true]
  by_cases h : a0 = b0 ∧ a1 = b1 ∧ a2 = b2 ∧ a3 = b3 ∧ a4 = b4 ∧ a5 = b5
  · obtain ⟨rfl, rfl, rfl, rfl, rfl, rfl⟩ := h
    simp [Sem.run_pure]
  · rw [decide_eq_false h, if_neg (by simpa using h)]
    simp [Sem.run_pure]

section
variable {ops : Array Oper} {rest : List Oper} {o : Oper} {a : Act} {w : World} {Q : Exit → Act → World → Prop}
end

theorem eq6_refl (a b c d e f : Int) : eq6 a b c d e f a b c d e f = true := by simp [eq6]
set_option maxHeartbeats 1000000 in
theorem run_eqE (x : Ev) (W : World) : (Op.equalIn 10000 35 (evv x) (evv x)).run Try.prog W = .ok true W := by
  have h6 := run_eq6 x.m0 x.m1 x.m2 x.m3 x.m4 x.m5 x.m0 x.m1 x.m2 x.m3 x.m4 x.m5 9996 W
  have h7 := run_eq6 x.s0 x.s1 x.s2 x.s3 x.s4 x.s5 x.s0 x.s1 x.s2 x.s3 x.s4 x.s5 9996 W
  rw [eq6_refl] at h6 h7
  unfold evv
  rw [show (10000 : Nat) = 9999 + 1 from rfl, run_equalIn_struct W 9999 35 _ _ (by kernel_rfl) (by kernel_rfl)]
  unfold evl
  simp [go_sem, h6, h7, part]
theorem run_eqlE (x : Ev) (W : World) : (binOp .eql 35 (evv x) (evv x)).run Try.prog W = .ok (.bool true) W := by
  have := run_eql_struct (P := Try.prog) W 35 (evl x).toArray (evl x).toArray
  rw [show Value.agg (evl x).toArray = evv x from rfl, run_eqE] at this
  exact this
theorem guardE (op : BinOp) (u v : Operand) (x y : Ev) (W : World) : (eqGuard op 35 u v (evv x) (evv y)).run Try.prog W = .ok () W := run_eqGuard_agg W op 35 u v _ _ (by kernel_rfl)
theorem at_oneE {ops : Array Oper} {rest : List Oper} {op : Oper} {a : Act} {w : World} {Q : Exit → Act → World → Prop} (x y : Operand) (p : Ev) (hw : Region.wanted op (yielded ops a.tmps) = true) (ho : op.op = .binOp .eql 35 x y 35) (hx : a.eval x = evv p) (hy : a.eval y = evv p)
    (h : wpList Try.prog ops Q rest (a.put op.dst (.bool true)) w) : wpList Try.prog ops Q (op :: rest) a w :=
  wpList_want hw fun _ hK => by
    unfold Oper.wp execOp
    simp only [ho, hx, hy, Sem.run_bind, Sem.run_pure, Result.andThen_ok, guardE, run_eqlE]
    exact hK _ _ h
theorem low8 (n : Int) : bits .and .i64 n 255 = n % 256 := by
  have h127 : (BitVec.ofInt 64 255).toNat = 2 ^ 8 - 1 := by decide
  have key : (BitVec.ofInt 64 n &&& BitVec.ofInt 64 255).toNat = (n % ((2 ^ 64 : Nat) : Int)).toNat % 2 ^ 8 := by
    rw [BitVec.toNat_and, BitVec.toNat_ofInt, h127, Nat.and_two_pow_sub_one_eq_mod]
  show IntKind.i64.wrap ((BitVec.ofInt 64 n &&& BitVec.ofInt 64 255).toNat : Nat) = n % 256
  rw [key, IntKind.wrap_i64]
  omega
/-- Whether an event may be. -/
def myE (e : Ev) : Bool :=
  if e.k = 1 then Hl.mayB e.T && !(e.m0 % 2 == 1) else if e.k = 5 then decide (0 ≤ e.f ∧ e.f ≤ 3) else decide (0 ≤ e.k ∧ e.k < 8)
set_option maxRecDepth 100000 in
set_option maxHeartbeats 4000000 in
theorem lmay_any (e : Ev) (w : World) (hm0 : 0 ≤ e.m0) (hm1 : e.m0 < 256) (hT : e.T.size ≤ 9223372036854775807) :
    Calls Try.prog 10 #[evv e] w fun z w' => z = .returned (.bool (myE e)) ∧ Below w.heap.size w w' := by
  have HQ := Lib.hid (show myE e = _ from by unfold myE; rfl)
  have HM := Lib.hid fun W => Hl.may_any e.T W hT
  have HG := Lib.hid fun W => group_any e.m0 e.m1 e.m2 e.m3 e.m4 e.m5 W hm0 hm1
  obtain ⟨k, a, T, m0, m1, m2, m3, m4, m5, b, n, f, s0, s1, s2, s3, s4, s5, t⟩ := e
  dsimp only at HQ HM HG hm0 hm1 hT
  simp only [evv, evl]
  have B0 := Lib.hid (show Below w.heap.size w (w.alloc (.cells #[.int .i64 k, .int .u32 a, .string T, .int .u8 m0, .int .u8 m1, .int .u8 m2, .int .u8 m3, .int .u8 m4, .int .u8 m5, .int .u32 b, .int .i64 n, .int .i64 f, .int .u8 s0, .int .u8 s1, .int .u8 s2, .int .u8 s3, .int .u8 s4, .int .u8 s5, .int .i64 t] 35)) from (Below.refl _ _).alloc (Nat.le_refl _) _)
  have KC := Lib.hid (cx_box w [.int .i64 k, .int .u32 a, .string T, .int .u8 m0, .int .u8 m1, .int .u8 m2, .int .u8 m3, .int .u8 m4, .int .u8 m5, .int .u32 b, .int .i64 n, .int .i64 f, .int .u8 s0, .int .u8 s1, .int .u8 s2, .int .u8 s3, .int .u8 s4, .int .u8 s5, .int .i64 t] _ 35 rfl)
  have k0 := KC.out.key 0 _ rfl
  have k2 := KC.out.key 2 _ rfl
  have k3 := KC.out.key 3 _ rfl
  have k4 := KC.out.key 4 _ rfl
  have k5 := KC.out.key 5 _ rfl
  have k6 := KC.out.key 6 _ rfl
  have k7 := KC.out.key 7 _ rfl
  have k8 := KC.out.key 8 _ rfl
  have k11 := KC.out.key 11 _ rfl
  obtain ⟨mb, hmb⟩ : ∃ v, Hl.mayB T = v := ⟨_, rfl⟩
  rw [hmb] at HM HQ
  clear hmb
  obtain ⟨gb, hgb⟩ : ∃ v, (m0 % 2 == 1) = v := ⟨_, rfl⟩
  rw [hgb] at HG HQ
  clear hgb
  go_enter Try.func10, Try.ntmps10
  go_upto_region 1 with fail
  generalize w.alloc (.cells #[.int .i64 k, .int .u32 a, .string T, .int .u8 m0, .int .u8 m1, .int .u8 m2, .int .u8 m3, .int .u8 m4, .int .u8 m5, .int .u32 b, .int .i64 n, .int .i64 f, .int .u8 s0, .int .u8 s1, .int .u8 s2, .int .u8 s3, .int .u8 s4, .int .u8 s5, .int .i64 t] 35) = W at *
  by_cases e1 : k = 1
  · subst e1
    rw [if_pos rfl] at HQ
    cases mb
    · go_wp2_with fail
      refine (HM.out _).mono ?_
      rintro e w1 ⟨rfl, rfl⟩
      go_wp2_with fail
      go_ret
      rw [HQ.out]
      exact ⟨rfl, B0.out⟩
    · go_wp2_with fail
      refine (HM.out _).mono ?_
      rintro e w1 ⟨rfl, rfl⟩
      go_wp2_with fail
      refine (HG.out _).mono ?_
      rintro e w2 ⟨rfl, hb⟩
      have B2 := Lib.hid (B0.out.trans (hb.mono B0.out.size))
      have KC2 := Lib.hid (Cx.below KC.out hb)
      clear k0 k2 k3 k4 k5 k6 k7 k8 k11 hb
      have k0 := KC2.out.key 0 _ rfl
      cases gb
      · go_wp2_with fail
        go_ret
        rw [HQ.out]
        exact ⟨rfl, B2.out⟩
      · go_wp2_with fail
        go_ret
        rw [HQ.out]
        exact ⟨rfl, B2.out⟩
  · rw [if_neg e1] at HQ
    have d1 : (k == 1) = false := beq_eq_false_iff_ne.2 e1
    by_cases e5 : k = 5
    · subst e5
      rw [if_pos rfl] at HQ
      by_cases f0 : f < 0
      · have hd : decide (0 ≤ f ∧ f ≤ 3) = false := decide_eq_false (by omega)
        go_wp2_with fail
        go_ret
        rw [HQ.out, hd]
        exact ⟨rfl, B0.out⟩
      · by_cases f3 : f > 3
        · have hd : decide (0 ≤ f ∧ f ≤ 3) = false := decide_eq_false (by omega)
          go_wp2_with fail
          go_ret
          rw [HQ.out, hd]
          exact ⟨rfl, B0.out⟩
        · have hd : decide (0 ≤ f ∧ f ≤ 3) = true := decide_eq_true (by omega)
          go_wp2_with fail
          go_ret
          rw [HQ.out, hd]
          exact ⟨rfl, B0.out⟩
    · rw [if_neg e5] at HQ
      have d5 : (k == 5) = false := beq_eq_false_iff_ne.2 e5
      by_cases g0 : 0 ≤ k
      · have hd : decide (0 ≤ k ∧ k < 8) = decide (k < 8) := by simp [g0]
        go_wp2_with fail
        go_ret
        rw [HQ.out, hd]
        exact ⟨rfl, B0.out⟩
      · have hd : decide (0 ≤ k ∧ k < 8) = false := decide_eq_false (by omega)
        have hg : decide (k ≥ 0) = false := decide_eq_false (by omega)
        go_wp2_with fail
        go_ret
        rw [HQ.out, hd]
        exact ⟨rfl, B0.out⟩
/-- What counts of an event. -/
def baE (e : Ev) : Ev :=
  if e.k = 1 then ⟨e.k, e.a, e.T, e.m0, e.m1, e.m2, e.m3, e.m4, e.m5, 0, 0, 0, 0, 0, 0, 0, 0, 0, 0⟩
  else if e.k = 2 ∨ e.k = 6 ∨ e.k = 7 then ⟨e.k, e.a, ⟨#[]⟩, 0, 0, 0, 0, 0, 0, 0, 0, 0, 0, 0, 0, 0, 0, 0, 0⟩
  else if e.k = 3 ∨ e.k = 4 then ⟨e.k, 0, ⟨#[]⟩, 0, 0, 0, 0, 0, 0, e.b, e.n % 256, 0, 0, 0, 0, 0, 0, 0, 0⟩
  else if e.k = 5 then ⟨e.k, e.a, ⟨#[]⟩, 0, 0, 0, 0, 0, 0, 0, 0, e.f % 256, e.s0, e.s1, e.s2, e.s3, e.s4, e.s5, 0⟩
  else ⟨e.k, 0, ⟨#[]⟩, 0, 0, 0, 0, 0, 0, 0, 0, 0, 0, 0, 0, 0, 0, 0, 0⟩
set_option maxRecDepth 100000 in
set_option maxHeartbeats 8000000 in
theorem bare_any (e : Ev) (w : World) :
    Calls Try.prog 11 #[evv e] w fun z w' => z = .returned (evv (baE e)) ∧ Below w.heap.size w w' := by
  have HQ := Lib.hid (show baE e = _ from by unfold baE; rfl)
  obtain ⟨k, a, T, m0, m1, m2, m3, m4, m5, b, n, f, s0, s1, s2, s3, s4, s5, t⟩ := e
  dsimp only at HQ
  have hn := low8 n
  have hf := low8 f
  obtain ⟨n', hn'⟩ : ∃ v, n % 256 = v := ⟨_, rfl⟩
  obtain ⟨f', hf'⟩ : ∃ v, f % 256 = v := ⟨_, rfl⟩
  rw [hn'] at hn HQ
  rw [hf'] at hf HQ
  clear hn' hf'
  simp only [evv, evl]
  have B0 := Lib.hid (show Below w.heap.size w (((w.alloc (.cells #[.int .i64 k, .int .u32 a, .string T, .int .u8 m0, .int .u8 m1, .int .u8 m2, .int .u8 m3, .int .u8 m4, .int .u8 m5, .int .u32 b, .int .i64 n, .int .i64 f, .int .u8 s0, .int .u8 s1, .int .u8 s2, .int .u8 s3, .int .u8 s4, .int .u8 s5, .int .i64 t] 35)).alloc (.cells #[.int .i64 0, .int .u32 0, .string ⟨#[]⟩, .int .u8 0, .int .u8 0, .int .u8 0, .int .u8 0, .int .u8 0, .int .u8 0, .int .u32 0, .int .i64 0, .int .i64 0, .int .u8 0, .int .u8 0, .int .u8 0, .int .u8 0, .int .u8 0, .int .u8 0, .int .i64 0] 35)).alloc (.cells #[.int .i64 0, .int .u32 0, .string ⟨#[]⟩, .int .u8 0, .int .u8 0, .int .u8 0, .int .u8 0, .int .u8 0, .int .u8 0, .int .u32 0, .int .i64 0, .int .i64 0, .int .u8 0, .int .u8 0, .int .u8 0, .int .u8 0, .int .u8 0, .int .u8 0, .int .i64 0] 35)) from (((Below.refl _ _).alloc (Nat.le_refl _) _).alloc (by simp) _).alloc (by simp <;> omega) _)
  have KC := Lib.hid (Cx.below (Cx.below (cx_box w [.int .i64 k, .int .u32 a, .string T, .int .u8 m0, .int .u8 m1, .int .u8 m2, .int .u8 m3, .int .u8 m4, .int .u8 m5, .int .u32 b, .int .i64 n, .int .i64 f, .int .u8 s0, .int .u8 s1, .int .u8 s2, .int .u8 s3, .int .u8 s4, .int .u8 s5, .int .i64 t] _ 35 rfl) ((Below.refl _ _).alloc (Nat.le_refl _) (.cells #[.int .i64 0, .int .u32 0, .string ⟨#[]⟩, .int .u8 0, .int .u8 0, .int .u8 0, .int .u8 0, .int .u8 0, .int .u8 0, .int .u32 0, .int .i64 0, .int .i64 0, .int .u8 0, .int .u8 0, .int .u8 0, .int .u8 0, .int .u8 0, .int .u8 0, .int .i64 0] 35))) ((Below.refl _ _).alloc (Nat.le_refl _) (.cells #[.int .i64 0, .int .u32 0, .string ⟨#[]⟩, .int .u8 0, .int .u8 0, .int .u8 0, .int .u8 0, .int .u8 0, .int .u8 0, .int .u32 0, .int .i64 0, .int .i64 0, .int .u8 0, .int .u8 0, .int .u8 0, .int .u8 0, .int .u8 0, .int .u8 0, .int .i64 0] 35)))
  have KR := (Cx.below (cx_box (w.alloc (.cells #[.int .i64 k, .int .u32 a, .string T, .int .u8 m0, .int .u8 m1, .int .u8 m2, .int .u8 m3, .int .u8 m4, .int .u8 m5, .int .u32 b, .int .i64 n, .int .i64 f, .int .u8 s0, .int .u8 s1, .int .u8 s2, .int .u8 s3, .int .u8 s4, .int .u8 s5, .int .i64 t] 35)) [.int .i64 0, .int .u32 0, .string ⟨#[]⟩, .int .u8 0, .int .u8 0, .int .u8 0, .int .u8 0, .int .u8 0, .int .u8 0, .int .u32 0, .int .i64 0, .int .i64 0, .int .u8 0, .int .u8 0, .int .u8 0, .int .u8 0, .int .u8 0, .int .u8 0, .int .i64 0] _ 35 rfl) ((Below.refl _ _).alloc (Nat.le_refl _) (.cells #[.int .i64 0, .int .u32 0, .string ⟨#[]⟩, .int .u8 0, .int .u8 0, .int .u8 0, .int .u8 0, .int .u8 0, .int .u8 0, .int .u32 0, .int .i64 0, .int .i64 0, .int .u8 0, .int .u8 0, .int .u8 0, .int .u8 0, .int .u8 0, .int .u8 0, .int .i64 0] 35)))
  have KX := cx_box ((w.alloc (.cells #[.int .i64 k, .int .u32 a, .string T, .int .u8 m0, .int .u8 m1, .int .u8 m2, .int .u8 m3, .int .u8 m4, .int .u8 m5, .int .u32 b, .int .i64 n, .int .i64 f, .int .u8 s0, .int .u8 s1, .int .u8 s2, .int .u8 s3, .int .u8 s4, .int .u8 s5, .int .i64 t] 35)).alloc (.cells #[.int .i64 0, .int .u32 0, .string ⟨#[]⟩, .int .u8 0, .int .u8 0, .int .u8 0, .int .u8 0, .int .u8 0, .int .u8 0, .int .u32 0, .int .i64 0, .int .i64 0, .int .u8 0, .int .u8 0, .int .u8 0, .int .u8 0, .int .u8 0, .int .u8 0, .int .i64 0] 35)) [.int .i64 0, .int .u32 0, .string ⟨#[]⟩, .int .u8 0, .int .u8 0, .int .u8 0, .int .u8 0, .int .u8 0, .int .u8 0, .int .u32 0, .int .i64 0, .int .i64 0, .int .u8 0, .int .u8 0, .int .u8 0, .int .u8 0, .int .u8 0, .int .u8 0, .int .i64 0] _ 35 rfl
  rw [World.size_alloc] at KR
  rw [World.size_alloc, World.size_alloc] at KX
  have KR := Lib.hid KR
  have KX := Lib.hid KX
  have k0 := KC.out.key 0 _ rfl
  go_enter Try.func11, Try.ntmps11
  go_upto_region 2 with (first | (refine at_put 35 (.tmp 3) _ (w.heap.size + 1 + 1) [] [.int .i64 0, .int .u32 0, .string ⟨#[]⟩, .int .u8 0, .int .u8 0, .int .u8 0, .int .u8 0, .int .u8 0, .int .u8 0, .int .u32 0, .int .i64 0, .int .i64 0, .int .u8 0, .int .u8 0, .int .u8 0, .int .u8 0, .int .u8 0, .int .u8 0, .int .i64 0] [.int .i64 k, .int .u32 0, .string ⟨#[]⟩, .int .u8 0, .int .u8 0, .int .u8 0, .int .u8 0, .int .u8 0, .int .u8 0, .int .u32 0, .int .i64 0, .int .i64 0, .int .u8 0, .int .u8 0, .int .u8 0, .int .u8 0, .int .u8 0, .int .u8 0, .int .i64 0] [] (by simpa using KX.out) rfl (by rw [sizeEv]; rfl) (by simp [Value.oneCell']) rfl rfl rfl rfl ?_; intro w2 KX2s hb2 hk2))
  have B2 := Lib.hid (B0.out.trans (hb2.out _ (by omega)))
  have KC2 := Lib.hid (cx_other KC.out hk2.out (by omega))
  have KR2 := Lib.hid (cx_other KR.out hk2.out (by omega))
  have KX2 := Lib.hid (show Cx w2 (w.heap.size + 1 + 1) [.int .i64 k, .int .u32 0, .string ⟨#[]⟩, .int .u8 0, .int .u8 0, .int .u8 0, .int .u8 0, .int .u8 0, .int .u8 0, .int .u32 0, .int .i64 0, .int .i64 0, .int .u8 0, .int .u8 0, .int .u8 0, .int .u8 0, .int .u8 0, .int .u8 0, .int .i64 0] from by simpa using KX2s.out)
  clear B0 KC KR KX k0 KX2s hb2 hk2
  have k0 := KC2.out.key 0 _ rfl
  by_cases e1 : k = 1
  · subst e1
    rw [if_pos rfl] at HQ
    go_upto_region 15 with (first | (refine at_get 28 _ (.tmp 11) w.heap.size [.int .i64 1] [.int .u32 a, .string T, .int .u8 m0, .int .u8 m1, .int .u8 m2, .int .u8 m3, .int .u8 m4, .int .u8 m5] [.int .u32 b, .int .i64 n, .int .i64 f, .int .u8 s0, .int .u8 s1, .int .u8 s2, .int .u8 s3, .int .u8 s4, .int .u8 s5, .int .i64 t] (by simpa using KC2.out) Try.underlying28 rfl (by rw [size_rholder]; rfl) rfl rfl rfl ?_) | (refine at_put 28 (.tmp 13) _ (w.heap.size + 1 + 1) [.int .i64 1] [.int .u32 0, .string ⟨#[]⟩, .int .u8 0, .int .u8 0, .int .u8 0, .int .u8 0, .int .u8 0, .int .u8 0] [.int .u32 a, .string T, .int .u8 m0, .int .u8 m1, .int .u8 m2, .int .u8 m3, .int .u8 m4, .int .u8 m5] [.int .u32 0, .int .i64 0, .int .i64 0, .int .u8 0, .int .u8 0, .int .u8 0, .int .u8 0, .int .u8 0, .int .u8 0, .int .i64 0] (by simpa using KX2.out) rfl (by rw [size_rholder]; rfl) (by simp [Value.oneCell']) rfl rfl rfl rfl ?_; intro v3 CE3 hb3 hk3))
    have B3 := Lib.hid (B2.out.trans (hb3.out _ (by omega)))
    have KC3 := Lib.hid (cx_other KC2.out hk3.out (by omega))
    have KR3 := Lib.hid (cx_other KR2.out hk3.out (by omega))
    have KX3 := Lib.hid (show Cx v3 (w.heap.size + 1 + 1) [.int .i64 1, .int .u32 a, .string T, .int .u8 m0, .int .u8 m1, .int .u8 m2, .int .u8 m3, .int .u8 m4, .int .u8 m5, .int .u32 0, .int .i64 0, .int .i64 0, .int .u8 0, .int .u8 0, .int .u8 0, .int .u8 0, .int .u8 0, .int .u8 0, .int .i64 0] from by simpa using CE3.out)
    clear CE3 hb3 hk3
    go_wp2_with (first | (refine at_get 35 _ (.tmp 3) (w.heap.size + 1 + 1) [] [.int .i64 1, .int .u32 a, .string T, .int .u8 m0, .int .u8 m1, .int .u8 m2, .int .u8 m3, .int .u8 m4, .int .u8 m5, .int .u32 0, .int .i64 0, .int .i64 0, .int .u8 0, .int .u8 0, .int .u8 0, .int .u8 0, .int .u8 0, .int .u8 0, .int .i64 0] [] (by simpa using KX3.out) Try.underlying35 rfl (by rw [sizeEv]; rfl) rfl rfl rfl ?_) | (refine at_put 35 (.tmp 2) _ (w.heap.size + 1) [] [.int .i64 0, .int .u32 0, .string ⟨#[]⟩, .int .u8 0, .int .u8 0, .int .u8 0, .int .u8 0, .int .u8 0, .int .u8 0, .int .u32 0, .int .i64 0, .int .i64 0, .int .u8 0, .int .u8 0, .int .u8 0, .int .u8 0, .int .u8 0, .int .u8 0, .int .i64 0] [.int .i64 1, .int .u32 a, .string T, .int .u8 m0, .int .u8 m1, .int .u8 m2, .int .u8 m3, .int .u8 m4, .int .u8 m5, .int .u32 0, .int .i64 0, .int .i64 0, .int .u8 0, .int .u8 0, .int .u8 0, .int .u8 0, .int .u8 0, .int .u8 0, .int .i64 0] [] (by simpa using KR3.out) rfl (by rw [sizeEv]; rfl) (by simp [Value.oneCell']) rfl rfl rfl rfl ?_; intro w9 C9 hb9 hk9))
    have e9 : Cx w9 (w.heap.size + 1) [.int .i64 1, .int .u32 a, .string T, .int .u8 m0, .int .u8 m1, .int .u8 m2, .int .u8 m3, .int .u8 m4, .int .u8 m5, .int .u32 0, .int .i64 0, .int .i64 0, .int .u8 0, .int .u8 0, .int .u8 0, .int .u8 0, .int .u8 0, .int .u8 0, .int .i64 0] := by simpa using C9.out
    refine bodyPost_ret (results_cell rfl _ _ _ _ rfl (loadv 35 _ e9 Try.underlying35 rfl (by rw [sizeEv]; rfl))) rfl ?_
    exact ⟨by rw [HQ.out], B3.out.trans (hb9.out _ (by omega))⟩
  · rw [if_neg e1] at HQ
    by_cases e2 : k = 2 ∨ k = 6 ∨ k = 7
    · rw [if_pos e2] at HQ
      have k1 := KC2.out.key 1 _ rfl
      rcases e2 with rfl | rfl | rfl
      · go_upto_region 15 with ((refine at_put1 24 (.tmp 22) _ (w.heap.size + 1 + 1) [.int .i64 2] (.int .u32 0) (.int .u32 a) [.string ⟨#[]⟩, .int .u8 0, .int .u8 0, .int .u8 0, .int .u8 0, .int .u8 0, .int .u8 0, .int .u32 0, .int .i64 0, .int .i64 0, .int .u8 0, .int .u8 0, .int .u8 0, .int .u8 0, .int .u8 0, .int .u8 0, .int .i64 0] (by simpa using KX2.out) sizeAd rfl rfl rfl rfl rfl rfl ?_; intro v3 CE3 hb3 hk3))
        have B3 := Lib.hid (B2.out.trans (hb3.out _ (by omega)))
        have KC3 := Lib.hid (cx_other KC2.out hk3.out (by omega))
        have KR3 := Lib.hid (cx_other KR2.out hk3.out (by omega))
        have KX3 := Lib.hid (show Cx v3 (w.heap.size + 1 + 1) [.int .i64 2, .int .u32 a, .string ⟨#[]⟩, .int .u8 0, .int .u8 0, .int .u8 0, .int .u8 0, .int .u8 0, .int .u8 0, .int .u32 0, .int .i64 0, .int .i64 0, .int .u8 0, .int .u8 0, .int .u8 0, .int .u8 0, .int .u8 0, .int .u8 0, .int .i64 0] from by simpa using CE3.out)
        clear CE3 hb3 hk3
        go_wp2_with (first | (refine at_get 35 _ (.tmp 3) (w.heap.size + 1 + 1) [] [.int .i64 2, .int .u32 a, .string ⟨#[]⟩, .int .u8 0, .int .u8 0, .int .u8 0, .int .u8 0, .int .u8 0, .int .u8 0, .int .u32 0, .int .i64 0, .int .i64 0, .int .u8 0, .int .u8 0, .int .u8 0, .int .u8 0, .int .u8 0, .int .u8 0, .int .i64 0] [] (by simpa using KX3.out) Try.underlying35 rfl (by rw [sizeEv]; rfl) rfl rfl rfl ?_) | (refine at_put 35 (.tmp 2) _ (w.heap.size + 1) [] [.int .i64 0, .int .u32 0, .string ⟨#[]⟩, .int .u8 0, .int .u8 0, .int .u8 0, .int .u8 0, .int .u8 0, .int .u8 0, .int .u32 0, .int .i64 0, .int .i64 0, .int .u8 0, .int .u8 0, .int .u8 0, .int .u8 0, .int .u8 0, .int .u8 0, .int .i64 0] [.int .i64 2, .int .u32 a, .string ⟨#[]⟩, .int .u8 0, .int .u8 0, .int .u8 0, .int .u8 0, .int .u8 0, .int .u8 0, .int .u32 0, .int .i64 0, .int .i64 0, .int .u8 0, .int .u8 0, .int .u8 0, .int .u8 0, .int .u8 0, .int .u8 0, .int .i64 0] [] (by simpa using KR3.out) rfl (by rw [sizeEv]; rfl) (by simp [Value.oneCell']) rfl rfl rfl rfl ?_; intro w9 C9 hb9 hk9))
        have e9 : Cx w9 (w.heap.size + 1) [.int .i64 2, .int .u32 a, .string ⟨#[]⟩, .int .u8 0, .int .u8 0, .int .u8 0, .int .u8 0, .int .u8 0, .int .u8 0, .int .u32 0, .int .i64 0, .int .i64 0, .int .u8 0, .int .u8 0, .int .u8 0, .int .u8 0, .int .u8 0, .int .u8 0, .int .i64 0] := by simpa using C9.out
        refine bodyPost_ret (results_cell rfl _ _ _ _ rfl (loadv 35 _ e9 Try.underlying35 rfl (by rw [sizeEv]; rfl))) rfl ?_
        exact ⟨by rw [HQ.out], B3.out.trans (hb9.out _ (by omega))⟩
      · go_upto_region 15 with ((refine at_put1 24 (.tmp 22) _ (w.heap.size + 1 + 1) [.int .i64 6] (.int .u32 0) (.int .u32 a) [.string ⟨#[]⟩, .int .u8 0, .int .u8 0, .int .u8 0, .int .u8 0, .int .u8 0, .int .u8 0, .int .u32 0, .int .i64 0, .int .i64 0, .int .u8 0, .int .u8 0, .int .u8 0, .int .u8 0, .int .u8 0, .int .u8 0, .int .i64 0] (by simpa using KX2.out) sizeAd rfl rfl rfl rfl rfl rfl ?_; intro v3 CE3 hb3 hk3))
        have B3 := Lib.hid (B2.out.trans (hb3.out _ (by omega)))
        have KC3 := Lib.hid (cx_other KC2.out hk3.out (by omega))
        have KR3 := Lib.hid (cx_other KR2.out hk3.out (by omega))
        have KX3 := Lib.hid (show Cx v3 (w.heap.size + 1 + 1) [.int .i64 6, .int .u32 a, .string ⟨#[]⟩, .int .u8 0, .int .u8 0, .int .u8 0, .int .u8 0, .int .u8 0, .int .u8 0, .int .u32 0, .int .i64 0, .int .i64 0, .int .u8 0, .int .u8 0, .int .u8 0, .int .u8 0, .int .u8 0, .int .u8 0, .int .i64 0] from by simpa using CE3.out)
        clear CE3 hb3 hk3
        go_wp2_with (first | (refine at_get 35 _ (.tmp 3) (w.heap.size + 1 + 1) [] [.int .i64 6, .int .u32 a, .string ⟨#[]⟩, .int .u8 0, .int .u8 0, .int .u8 0, .int .u8 0, .int .u8 0, .int .u8 0, .int .u32 0, .int .i64 0, .int .i64 0, .int .u8 0, .int .u8 0, .int .u8 0, .int .u8 0, .int .u8 0, .int .u8 0, .int .i64 0] [] (by simpa using KX3.out) Try.underlying35 rfl (by rw [sizeEv]; rfl) rfl rfl rfl ?_) | (refine at_put 35 (.tmp 2) _ (w.heap.size + 1) [] [.int .i64 0, .int .u32 0, .string ⟨#[]⟩, .int .u8 0, .int .u8 0, .int .u8 0, .int .u8 0, .int .u8 0, .int .u8 0, .int .u32 0, .int .i64 0, .int .i64 0, .int .u8 0, .int .u8 0, .int .u8 0, .int .u8 0, .int .u8 0, .int .u8 0, .int .i64 0] [.int .i64 6, .int .u32 a, .string ⟨#[]⟩, .int .u8 0, .int .u8 0, .int .u8 0, .int .u8 0, .int .u8 0, .int .u8 0, .int .u32 0, .int .i64 0, .int .i64 0, .int .u8 0, .int .u8 0, .int .u8 0, .int .u8 0, .int .u8 0, .int .u8 0, .int .i64 0] [] (by simpa using KR3.out) rfl (by rw [sizeEv]; rfl) (by simp [Value.oneCell']) rfl rfl rfl rfl ?_; intro w9 C9 hb9 hk9))
        have e9 : Cx w9 (w.heap.size + 1) [.int .i64 6, .int .u32 a, .string ⟨#[]⟩, .int .u8 0, .int .u8 0, .int .u8 0, .int .u8 0, .int .u8 0, .int .u8 0, .int .u32 0, .int .i64 0, .int .i64 0, .int .u8 0, .int .u8 0, .int .u8 0, .int .u8 0, .int .u8 0, .int .u8 0, .int .i64 0] := by simpa using C9.out
        refine bodyPost_ret (results_cell rfl _ _ _ _ rfl (loadv 35 _ e9 Try.underlying35 rfl (by rw [sizeEv]; rfl))) rfl ?_
        exact ⟨by rw [HQ.out], B3.out.trans (hb9.out _ (by omega))⟩
      · go_upto_region 15 with ((refine at_put1 24 (.tmp 22) _ (w.heap.size + 1 + 1) [.int .i64 7] (.int .u32 0) (.int .u32 a) [.string ⟨#[]⟩, .int .u8 0, .int .u8 0, .int .u8 0, .int .u8 0, .int .u8 0, .int .u8 0, .int .u32 0, .int .i64 0, .int .i64 0, .int .u8 0, .int .u8 0, .int .u8 0, .int .u8 0, .int .u8 0, .int .u8 0, .int .i64 0] (by simpa using KX2.out) sizeAd rfl rfl rfl rfl rfl rfl ?_; intro v3 CE3 hb3 hk3))
        have B3 := Lib.hid (B2.out.trans (hb3.out _ (by omega)))
        have KC3 := Lib.hid (cx_other KC2.out hk3.out (by omega))
        have KR3 := Lib.hid (cx_other KR2.out hk3.out (by omega))
        have KX3 := Lib.hid (show Cx v3 (w.heap.size + 1 + 1) [.int .i64 7, .int .u32 a, .string ⟨#[]⟩, .int .u8 0, .int .u8 0, .int .u8 0, .int .u8 0, .int .u8 0, .int .u8 0, .int .u32 0, .int .i64 0, .int .i64 0, .int .u8 0, .int .u8 0, .int .u8 0, .int .u8 0, .int .u8 0, .int .u8 0, .int .i64 0] from by simpa using CE3.out)
        clear CE3 hb3 hk3
        go_wp2_with (first | (refine at_get 35 _ (.tmp 3) (w.heap.size + 1 + 1) [] [.int .i64 7, .int .u32 a, .string ⟨#[]⟩, .int .u8 0, .int .u8 0, .int .u8 0, .int .u8 0, .int .u8 0, .int .u8 0, .int .u32 0, .int .i64 0, .int .i64 0, .int .u8 0, .int .u8 0, .int .u8 0, .int .u8 0, .int .u8 0, .int .u8 0, .int .i64 0] [] (by simpa using KX3.out) Try.underlying35 rfl (by rw [sizeEv]; rfl) rfl rfl rfl ?_) | (refine at_put 35 (.tmp 2) _ (w.heap.size + 1) [] [.int .i64 0, .int .u32 0, .string ⟨#[]⟩, .int .u8 0, .int .u8 0, .int .u8 0, .int .u8 0, .int .u8 0, .int .u8 0, .int .u32 0, .int .i64 0, .int .i64 0, .int .u8 0, .int .u8 0, .int .u8 0, .int .u8 0, .int .u8 0, .int .u8 0, .int .i64 0] [.int .i64 7, .int .u32 a, .string ⟨#[]⟩, .int .u8 0, .int .u8 0, .int .u8 0, .int .u8 0, .int .u8 0, .int .u8 0, .int .u32 0, .int .i64 0, .int .i64 0, .int .u8 0, .int .u8 0, .int .u8 0, .int .u8 0, .int .u8 0, .int .u8 0, .int .i64 0] [] (by simpa using KR3.out) rfl (by rw [sizeEv]; rfl) (by simp [Value.oneCell']) rfl rfl rfl rfl ?_; intro w9 C9 hb9 hk9))
        have e9 : Cx w9 (w.heap.size + 1) [.int .i64 7, .int .u32 a, .string ⟨#[]⟩, .int .u8 0, .int .u8 0, .int .u8 0, .int .u8 0, .int .u8 0, .int .u8 0, .int .u32 0, .int .i64 0, .int .i64 0, .int .u8 0, .int .u8 0, .int .u8 0, .int .u8 0, .int .u8 0, .int .u8 0, .int .i64 0] := by simpa using C9.out
        refine bodyPost_ret (results_cell rfl _ _ _ _ rfl (loadv 35 _ e9 Try.underlying35 rfl (by rw [sizeEv]; rfl))) rfl ?_
        exact ⟨by rw [HQ.out], B3.out.trans (hb9.out _ (by omega))⟩
    · rw [if_neg e2] at HQ
      by_cases e3 : k = 3 ∨ k = 4
      · rw [if_pos e3] at HQ
        have k9 := KC2.out.key 9 _ rfl
        have k10 := KC2.out.key 10 _ rfl
        rcases e3 with rfl | rfl
        · go_upto_region 15 with ((refine at_put 30 (.tmp 34) _ (w.heap.size + 1 + 1) [.int .i64 3, .int .u32 0, .string ⟨#[]⟩, .int .u8 0, .int .u8 0, .int .u8 0, .int .u8 0, .int .u8 0, .int .u8 0] [.int .u32 0, .int .i64 0] [.int .u32 b, .int .i64 n'] [.int .i64 0, .int .u8 0, .int .u8 0, .int .u8 0, .int .u8 0, .int .u8 0, .int .u8 0, .int .i64 0] (by simpa using KX2.out) rfl (by rw [size_rblock]; rfl) (by simp [Value.oneCell']) rfl rfl rfl rfl ?_; intro v3 CE3 hb3 hk3))
          have B3 := Lib.hid (B2.out.trans (hb3.out _ (by omega)))
          have KC3 := Lib.hid (cx_other KC2.out hk3.out (by omega))
          have KR3 := Lib.hid (cx_other KR2.out hk3.out (by omega))
          have KX3 := Lib.hid (show Cx v3 (w.heap.size + 1 + 1) [.int .i64 3, .int .u32 0, .string ⟨#[]⟩, .int .u8 0, .int .u8 0, .int .u8 0, .int .u8 0, .int .u8 0, .int .u8 0, .int .u32 b, .int .i64 n', .int .i64 0, .int .u8 0, .int .u8 0, .int .u8 0, .int .u8 0, .int .u8 0, .int .u8 0, .int .i64 0] from by simpa using CE3.out)
          clear CE3 hb3 hk3
          go_wp2_with (first | (refine at_get 35 _ (.tmp 3) (w.heap.size + 1 + 1) [] [.int .i64 3, .int .u32 0, .string ⟨#[]⟩, .int .u8 0, .int .u8 0, .int .u8 0, .int .u8 0, .int .u8 0, .int .u8 0, .int .u32 b, .int .i64 n', .int .i64 0, .int .u8 0, .int .u8 0, .int .u8 0, .int .u8 0, .int .u8 0, .int .u8 0, .int .i64 0] [] (by simpa using KX3.out) Try.underlying35 rfl (by rw [sizeEv]; rfl) rfl rfl rfl ?_) | (refine at_put 35 (.tmp 2) _ (w.heap.size + 1) [] [.int .i64 0, .int .u32 0, .string ⟨#[]⟩, .int .u8 0, .int .u8 0, .int .u8 0, .int .u8 0, .int .u8 0, .int .u8 0, .int .u32 0, .int .i64 0, .int .i64 0, .int .u8 0, .int .u8 0, .int .u8 0, .int .u8 0, .int .u8 0, .int .u8 0, .int .i64 0] [.int .i64 3, .int .u32 0, .string ⟨#[]⟩, .int .u8 0, .int .u8 0, .int .u8 0, .int .u8 0, .int .u8 0, .int .u8 0, .int .u32 b, .int .i64 n', .int .i64 0, .int .u8 0, .int .u8 0, .int .u8 0, .int .u8 0, .int .u8 0, .int .u8 0, .int .i64 0] [] (by simpa using KR3.out) rfl (by rw [sizeEv]; rfl) (by simp [Value.oneCell']) rfl rfl rfl rfl ?_; intro w9 C9 hb9 hk9))
          have e9 : Cx w9 (w.heap.size + 1) [.int .i64 3, .int .u32 0, .string ⟨#[]⟩, .int .u8 0, .int .u8 0, .int .u8 0, .int .u8 0, .int .u8 0, .int .u8 0, .int .u32 b, .int .i64 n', .int .i64 0, .int .u8 0, .int .u8 0, .int .u8 0, .int .u8 0, .int .u8 0, .int .u8 0, .int .i64 0] := by simpa using C9.out
          refine bodyPost_ret (results_cell rfl _ _ _ _ rfl (loadv 35 _ e9 Try.underlying35 rfl (by rw [sizeEv]; rfl))) rfl ?_
          exact ⟨by rw [HQ.out], B3.out.trans (hb9.out _ (by omega))⟩
        · go_upto_region 15 with ((refine at_put 30 (.tmp 34) _ (w.heap.size + 1 + 1) [.int .i64 4, .int .u32 0, .string ⟨#[]⟩, .int .u8 0, .int .u8 0, .int .u8 0, .int .u8 0, .int .u8 0, .int .u8 0] [.int .u32 0, .int .i64 0] [.int .u32 b, .int .i64 n'] [.int .i64 0, .int .u8 0, .int .u8 0, .int .u8 0, .int .u8 0, .int .u8 0, .int .u8 0, .int .i64 0] (by simpa using KX2.out) rfl (by rw [size_rblock]; rfl) (by simp [Value.oneCell']) rfl rfl rfl rfl ?_; intro v3 CE3 hb3 hk3))
          have B3 := Lib.hid (B2.out.trans (hb3.out _ (by omega)))
          have KC3 := Lib.hid (cx_other KC2.out hk3.out (by omega))
          have KR3 := Lib.hid (cx_other KR2.out hk3.out (by omega))
          have KX3 := Lib.hid (show Cx v3 (w.heap.size + 1 + 1) [.int .i64 4, .int .u32 0, .string ⟨#[]⟩, .int .u8 0, .int .u8 0, .int .u8 0, .int .u8 0, .int .u8 0, .int .u8 0, .int .u32 b, .int .i64 n', .int .i64 0, .int .u8 0, .int .u8 0, .int .u8 0, .int .u8 0, .int .u8 0, .int .u8 0, .int .i64 0] from by simpa using CE3.out)
          clear CE3 hb3 hk3
          go_wp2_with (first | (refine at_get 35 _ (.tmp 3) (w.heap.size + 1 + 1) [] [.int .i64 4, .int .u32 0, .string ⟨#[]⟩, .int .u8 0, .int .u8 0, .int .u8 0, .int .u8 0, .int .u8 0, .int .u8 0, .int .u32 b, .int .i64 n', .int .i64 0, .int .u8 0, .int .u8 0, .int .u8 0, .int .u8 0, .int .u8 0, .int .u8 0, .int .i64 0] [] (by simpa using KX3.out) Try.underlying35 rfl (by rw [sizeEv]; rfl) rfl rfl rfl ?_) | (refine at_put 35 (.tmp 2) _ (w.heap.size + 1) [] [.int .i64 0, .int .u32 0, .string ⟨#[]⟩, .int .u8 0, .int .u8 0, .int .u8 0, .int .u8 0, .int .u8 0, .int .u8 0, .int .u32 0, .int .i64 0, .int .i64 0, .int .u8 0, .int .u8 0, .int .u8 0, .int .u8 0, .int .u8 0, .int .u8 0, .int .i64 0] [.int .i64 4, .int .u32 0, .string ⟨#[]⟩, .int .u8 0, .int .u8 0, .int .u8 0, .int .u8 0, .int .u8 0, .int .u8 0, .int .u32 b, .int .i64 n', .int .i64 0, .int .u8 0, .int .u8 0, .int .u8 0, .int .u8 0, .int .u8 0, .int .u8 0, .int .i64 0] [] (by simpa using KR3.out) rfl (by rw [sizeEv]; rfl) (by simp [Value.oneCell']) rfl rfl rfl rfl ?_; intro w9 C9 hb9 hk9))
          have e9 : Cx w9 (w.heap.size + 1) [.int .i64 4, .int .u32 0, .string ⟨#[]⟩, .int .u8 0, .int .u8 0, .int .u8 0, .int .u8 0, .int .u8 0, .int .u8 0, .int .u32 b, .int .i64 n', .int .i64 0, .int .u8 0, .int .u8 0, .int .u8 0, .int .u8 0, .int .u8 0, .int .u8 0, .int .i64 0] := by simpa using C9.out
          refine bodyPost_ret (results_cell rfl _ _ _ _ rfl (loadv 35 _ e9 Try.underlying35 rfl (by rw [sizeEv]; rfl))) rfl ?_
          exact ⟨by rw [HQ.out], B3.out.trans (hb9.out _ (by omega))⟩
      · rw [if_neg e3] at HQ
        by_cases e5 : k = 5
        · subst e5
          rw [if_pos rfl] at HQ
          have k1 := KC2.out.key 1 _ rfl
          go_upto_region 14 with ((refine at_put1 24 (.tmp 41) _ (w.heap.size + 1 + 1) [.int .i64 5] (.int .u32 0) (.int .u32 a) [.string ⟨#[]⟩, .int .u8 0, .int .u8 0, .int .u8 0, .int .u8 0, .int .u8 0, .int .u8 0, .int .u32 0, .int .i64 0, .int .i64 0, .int .u8 0, .int .u8 0, .int .u8 0, .int .u8 0, .int .u8 0, .int .u8 0, .int .i64 0] (by simpa using KX2.out) sizeAd rfl rfl rfl rfl rfl rfl ?_; intro v3 CE3 hb3 hk3))
          have B3 := Lib.hid (B2.out.trans (hb3.out _ (by omega)))
          have KC3 := Lib.hid (cx_other KC2.out hk3.out (by omega))
          have KR3 := Lib.hid (cx_other KR2.out hk3.out (by omega))
          have KX3 := Lib.hid (show Cx v3 (w.heap.size + 1 + 1) [.int .i64 5, .int .u32 a, .string ⟨#[]⟩, .int .u8 0, .int .u8 0, .int .u8 0, .int .u8 0, .int .u8 0, .int .u8 0, .int .u32 0, .int .i64 0, .int .i64 0, .int .u8 0, .int .u8 0, .int .u8 0, .int .u8 0, .int .u8 0, .int .u8 0, .int .i64 0] from by simpa using CE3.out)
          clear CE3 hb3 hk3
          have k11 := KC3.out.key 11 _ rfl
          go_upto_region 15 with (first | (refine at_get 26 _ (.tmp 47) w.heap.size [.int .i64 5, .int .u32 a, .string T, .int .u8 m0, .int .u8 m1, .int .u8 m2, .int .u8 m3, .int .u8 m4, .int .u8 m5, .int .u32 b, .int .i64 n, .int .i64 f] [.int .u8 s0, .int .u8 s1, .int .u8 s2, .int .u8 s3, .int .u8 s4, .int .u8 s5] [.int .i64 t] (by simpa using KC3.out) Try.underlying26 rfl (by rw [sizeM6]; rfl) rfl rfl rfl ?_) | (refine at_put 33 (.tmp 50) _ (w.heap.size + 1 + 1) [.int .i64 5, .int .u32 a, .string ⟨#[]⟩, .int .u8 0, .int .u8 0, .int .u8 0, .int .u8 0, .int .u8 0, .int .u8 0, .int .u32 0, .int .i64 0] [.int .i64 0, .int .u8 0, .int .u8 0, .int .u8 0, .int .u8 0, .int .u8 0, .int .u8 0, .int .i64 0] [.int .i64 f', .int .u8 s0, .int .u8 s1, .int .u8 s2, .int .u8 s3, .int .u8 s4, .int .u8 s5, .int .i64 0] [] (by simpa using KX3.out) rfl (by rw [size_rsighted]; rfl) (by simp [Value.oneCell']) rfl rfl rfl rfl ?_; intro v4 CE4 hb4 hk4))
          have B4 := Lib.hid (B3.out.trans (hb4.out _ (by omega)))
          have KC4 := Lib.hid (cx_other KC3.out hk4.out (by omega))
          have KR4 := Lib.hid (cx_other KR3.out hk4.out (by omega))
          have KX4 := Lib.hid (show Cx v4 (w.heap.size + 1 + 1) [.int .i64 5, .int .u32 a, .string ⟨#[]⟩, .int .u8 0, .int .u8 0, .int .u8 0, .int .u8 0, .int .u8 0, .int .u8 0, .int .u32 0, .int .i64 0, .int .i64 f', .int .u8 s0, .int .u8 s1, .int .u8 s2, .int .u8 s3, .int .u8 s4, .int .u8 s5, .int .i64 0] from by simpa using CE4.out)
          clear CE4 hb4 hk4
          go_wp2_with (first | (refine at_get 35 _ (.tmp 3) (w.heap.size + 1 + 1) [] [.int .i64 5, .int .u32 a, .string ⟨#[]⟩, .int .u8 0, .int .u8 0, .int .u8 0, .int .u8 0, .int .u8 0, .int .u8 0, .int .u32 0, .int .i64 0, .int .i64 f', .int .u8 s0, .int .u8 s1, .int .u8 s2, .int .u8 s3, .int .u8 s4, .int .u8 s5, .int .i64 0] [] (by simpa using KX4.out) Try.underlying35 rfl (by rw [sizeEv]; rfl) rfl rfl rfl ?_) | (refine at_put 35 (.tmp 2) _ (w.heap.size + 1) [] [.int .i64 0, .int .u32 0, .string ⟨#[]⟩, .int .u8 0, .int .u8 0, .int .u8 0, .int .u8 0, .int .u8 0, .int .u8 0, .int .u32 0, .int .i64 0, .int .i64 0, .int .u8 0, .int .u8 0, .int .u8 0, .int .u8 0, .int .u8 0, .int .u8 0, .int .i64 0] [.int .i64 5, .int .u32 a, .string ⟨#[]⟩, .int .u8 0, .int .u8 0, .int .u8 0, .int .u8 0, .int .u8 0, .int .u8 0, .int .u32 0, .int .i64 0, .int .i64 f', .int .u8 s0, .int .u8 s1, .int .u8 s2, .int .u8 s3, .int .u8 s4, .int .u8 s5, .int .i64 0] [] (by simpa using KR4.out) rfl (by rw [sizeEv]; rfl) (by simp [Value.oneCell']) rfl rfl rfl rfl ?_; intro w9 C9 hb9 hk9))
          have e9 : Cx w9 (w.heap.size + 1) [.int .i64 5, .int .u32 a, .string ⟨#[]⟩, .int .u8 0, .int .u8 0, .int .u8 0, .int .u8 0, .int .u8 0, .int .u8 0, .int .u32 0, .int .i64 0, .int .i64 f', .int .u8 s0, .int .u8 s1, .int .u8 s2, .int .u8 s3, .int .u8 s4, .int .u8 s5, .int .i64 0] := by simpa using C9.out
          refine bodyPost_ret (results_cell rfl _ _ _ _ rfl (loadv 35 _ e9 Try.underlying35 rfl (by rw [sizeEv]; rfl))) rfl ?_
          exact ⟨by rw [HQ.out], B4.out.trans (hb9.out _ (by omega))⟩
        · rw [if_neg e5] at HQ
          have d1 : (k == 1) = false := beq_eq_false_iff_ne.2 e1
          have d2 : (k == 2) = false := beq_eq_false_iff_ne.2 fun h => e2 (.inl h)
          have d6 : (k == 6) = false := beq_eq_false_iff_ne.2 fun h => e2 (.inr (.inl h))
          have d7 : (k == 7) = false := beq_eq_false_iff_ne.2 fun h => e2 (.inr (.inr h))
          have d3 : (k == 3) = false := beq_eq_false_iff_ne.2 fun h => e3 (.inl h)
          have d4 : (k == 4) = false := beq_eq_false_iff_ne.2 fun h => e3 (.inr h)
          have d5 : (k == 5) = false := beq_eq_false_iff_ne.2 e5
          go_upto_region 15 with fail
          go_wp2_with (first | (refine at_get 35 _ (.tmp 3) (w.heap.size + 1 + 1) [] [.int .i64 k, .int .u32 0, .string ⟨#[]⟩, .int .u8 0, .int .u8 0, .int .u8 0, .int .u8 0, .int .u8 0, .int .u8 0, .int .u32 0, .int .i64 0, .int .i64 0, .int .u8 0, .int .u8 0, .int .u8 0, .int .u8 0, .int .u8 0, .int .u8 0, .int .i64 0] [] (by simpa using KX2.out) Try.underlying35 rfl (by rw [sizeEv]; rfl) rfl rfl rfl ?_) | (refine at_put 35 (.tmp 2) _ (w.heap.size + 1) [] [.int .i64 0, .int .u32 0, .string ⟨#[]⟩, .int .u8 0, .int .u8 0, .int .u8 0, .int .u8 0, .int .u8 0, .int .u8 0, .int .u32 0, .int .i64 0, .int .i64 0, .int .u8 0, .int .u8 0, .int .u8 0, .int .u8 0, .int .u8 0, .int .u8 0, .int .i64 0] [.int .i64 k, .int .u32 0, .string ⟨#[]⟩, .int .u8 0, .int .u8 0, .int .u8 0, .int .u8 0, .int .u8 0, .int .u8 0, .int .u32 0, .int .i64 0, .int .i64 0, .int .u8 0, .int .u8 0, .int .u8 0, .int .u8 0, .int .u8 0, .int .u8 0, .int .i64 0] [] (by simpa using KR2.out) rfl (by rw [sizeEv]; rfl) (by simp [Value.oneCell']) rfl rfl rfl rfl ?_; intro w9 C9 hb9 hk9))
          have e9 : Cx w9 (w.heap.size + 1) [.int .i64 k, .int .u32 0, .string ⟨#[]⟩, .int .u8 0, .int .u8 0, .int .u8 0, .int .u8 0, .int .u8 0, .int .u8 0, .int .u32 0, .int .i64 0, .int .i64 0, .int .u8 0, .int .u8 0, .int .u8 0, .int .u8 0, .int .u8 0, .int .u8 0, .int .i64 0] := by simpa using C9.out
          refine bodyPost_ret (results_cell rfl _ _ _ _ rfl (loadv 35 _ e9 Try.underlying35 rfl (by rw [sizeEv]; rfl))) rfl ?_
          exact ⟨by rw [HQ.out], B2.out.trans (hb9.out _ (by omega))⟩
end Go.Proofs.Ytbjlklkmcpnemaa
