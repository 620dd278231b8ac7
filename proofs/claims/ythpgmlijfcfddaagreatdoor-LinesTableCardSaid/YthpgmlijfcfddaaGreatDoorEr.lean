/-
  Rows are compared: a row is the same as itself. Texts put together. No condition but that texts are short.
-/
import Derived.Test.YthpgmlijfcfddaaGreatDoorDg
set_option linter.unusedSimpArgs false
set_option linter.unusedVariables false
namespace Go.Proofs.YthpgmlijfcfddaaGreatDoor
open Go.RowKit

theorem run_each {P : Program} {W : World} (f : Nat → Bool) (body : Nat → Option Bool × Unit → Sem (ForInStep (Option Bool × Unit))) :
    ∀ ks : List Nat, (∀ k ∈ ks, (body k (none, ())).run P W = .ok (if f k = true then ForInStep.yield (none, ()) else ForInStep.done (some false, ())) W) →
      (forIn ks (none, ()) body).run P W = .ok (if ks.all f = true then (none, ()) else (some false, ())) W
  | [], _ => by simp [Sem.run_pure]
  | k :: ks, h => by
    have ih := run_each f body ks (fun j hj => h j (List.mem_cons_of_mem _ hj))
    rw [List.forIn_cons, Sem.run_bind, h k (List.mem_cons_self ..), Result.andThen_ok]
    cases hk : f k
    · simp [hk, Sem.run_pure]
    · simp only [if_true]
      rw [ih]
      simp [hk]

theorem run_eq6 (a0 a1 a2 a3 a4 a5 b0 b1 b2 b3 b4 b5 : Int) (d : Nat) (W : World) :
    (Op.equalIn (d + 2) 24 (.agg #[.int .u8 a0, .int .u8 a1, .int .u8 a2, .int .u8 a3, .int .u8 a4, .int .u8 a5]) (.agg #[.int .u8 b0, .int .u8 b1, .int .u8 b2, .int .u8 b3, .int .u8 b4, .int .u8 b5])).run Tryz.prog W = .ok (Mc.eq6 a0 a1 a2 a3 a4 a5 b0 b1 b2 b3 b4 b5) W := by
  show (Op.equalIn (d + 1 + 1) 24 _ _).run Tryz.prog W = _
  have he : ∀ (x y : Int), (Op.equalIn (d + 1) 5 (.int .u8 x) (.int .u8 y)).run Tryz.prog W = .ok (x == y) W := fun (x y : Int) => run_equalIn_int (P := Tryz.prog) W d 5 .u8 .u8 x y Tryz.underlying5
  have hs : (sizeOf 5).run Tryz.prog W = .ok 1 W := by simp [go_sem]
  have e1 : ∀ (xs : Array Value) (k : Nat) (x : Int), xs[k]? = some (.int .u8 x) → (part 5 xs (k * 1)).run Tryz.prog W = .ok (.int .u8 x) W := by
    intro xs k x h
    simp [part, go_sem, h]
  unfold Op.equalIn
  simp only [Sem.run_bind, run_underlying Tryz.underlying24, Result.andThen_ok, hs]
  have hl : List.range' 0 6 1 = [0, 1, 2, 3, 4, 5] := rfl
  rw [Std.Legacy.Range.forIn_eq_forIn_range']
  simp only [Std.Legacy.Range.size]
  simp only [Nat.sub_zero, Nat.add_one_sub_one, Nat.reduceAdd, Nat.reduceDiv, hl]
  have ae0 := e1 #[.int .u8 a0, .int .u8 a1, .int .u8 a2, .int .u8 a3, .int .u8 a4, .int .u8 a5] 0 a0 rfl
  have ae1 := e1 #[.int .u8 a0, .int .u8 a1, .int .u8 a2, .int .u8 a3, .int .u8 a4, .int .u8 a5] 1 a1 rfl
  have ae2 := e1 #[.int .u8 a0, .int .u8 a1, .int .u8 a2, .int .u8 a3, .int .u8 a4, .int .u8 a5] 2 a2 rfl
  have ae3 := e1 #[.int .u8 a0, .int .u8 a1, .int .u8 a2, .int .u8 a3, .int .u8 a4, .int .u8 a5] 3 a3 rfl
  have ae4 := e1 #[.int .u8 a0, .int .u8 a1, .int .u8 a2, .int .u8 a3, .int .u8 a4, .int .u8 a5] 4 a4 rfl
  have ae5 := e1 #[.int .u8 a0, .int .u8 a1, .int .u8 a2, .int .u8 a3, .int .u8 a4, .int .u8 a5] 5 a5 rfl
  have be0 := e1 #[.int .u8 b0, .int .u8 b1, .int .u8 b2, .int .u8 b3, .int .u8 b4, .int .u8 b5] 0 b0 rfl
  have be1 := e1 #[.int .u8 b0, .int .u8 b1, .int .u8 b2, .int .u8 b3, .int .u8 b4, .int .u8 b5] 1 b1 rfl
  have be2 := e1 #[.int .u8 b0, .int .u8 b1, .int .u8 b2, .int .u8 b3, .int .u8 b4, .int .u8 b5] 2 b2 rfl
  have be3 := e1 #[.int .u8 b0, .int .u8 b1, .int .u8 b2, .int .u8 b3, .int .u8 b4, .int .u8 b5] 3 b3 rfl
  have be4 := e1 #[.int .u8 b0, .int .u8 b1, .int .u8 b2, .int .u8 b3, .int .u8 b4, .int .u8 b5] 4 b4 rfl
  have be5 := e1 #[.int .u8 b0, .int .u8 b1, .int .u8 b2, .int .u8 b3, .int .u8 b4, .int .u8 b5] 5 b5 rfl
  rw [run_each (fun k => [a0, a1, a2, a3, a4, a5].getD k 0 == [b0, b1, b2, b3, b4, b5].getD k 0) _ [0, 1, 2, 3, 4, 5] (by
    intro k hk
    simp only [List.mem_cons, List.not_mem_nil, or_false] at hk
    rcases hk with rfl | rfl | rfl | rfl | rfl | rfl
    · simp only [Sem.run_bind, ae0, be0, he, Result.andThen_ok, Sem.run_ite, Sem.run_pure, List.getD_cons_zero]
      cases (a0 == b0) <;> rfl
    · simp only [Sem.run_bind, ae1, be1, he, Result.andThen_ok, Sem.run_ite, Sem.run_pure, List.getD_cons_zero, List.getD_cons_succ]
      cases (a1 == b1) <;> rfl
    · simp only [Sem.run_bind, ae2, be2, he, Result.andThen_ok, Sem.run_ite, Sem.run_pure, List.getD_cons_zero, List.getD_cons_succ]
      cases (a2 == b2) <;> rfl
    · simp only [Sem.run_bind, ae3, be3, he, Result.andThen_ok, Sem.run_ite, Sem.run_pure, List.getD_cons_zero, List.getD_cons_succ]
      cases (a3 == b3) <;> rfl
    · simp only [Sem.run_bind, ae4, be4, he, Result.andThen_ok, Sem.run_ite, Sem.run_pure, List.getD_cons_zero, List.getD_cons_succ]
      cases (a4 == b4) <;> rfl
    · simp only [Sem.run_bind, ae5, be5, he, Result.andThen_ok, Sem.run_ite, Sem.run_pure, List.getD_cons_zero, List.getD_cons_succ]
      cases (a5 == b5) <;> rfl), Result.andThen_ok]
  unfold Mc.eq6
  simp only [List.all_cons, List.all_nil, List.getD_cons_zero, List.getD_cons_succ, Bool.and_true]
  by_cases h : a0 = b0 ∧ a1 = b1 ∧ a2 = b2 ∧ a3 = b3 ∧ a4 = b4 ∧ a5 = b5
  · obtain ⟨rfl, rfl, rfl, rfl, rfl, rfl⟩ := h
    simp [Sem.run_pure]
  · rw [decide_eq_false h, if_neg (by simpa using h)]
    simp [Sem.run_pure]

theorem eq6_refl (b0 b1 b2 b3 b4 b5 : Int) : Mc.eq6 b0 b1 b2 b3 b4 b5 b0 b1 b2 b3 b4 b5 = true := by simp [Mc.eq6]
theorem run_eqR (r : Rr) (W : World) : (Op.equalIn 10000 33 (rv r) (rv r)).run Tryz.prog W = .ok true W := by
  have h6 := run_eq6 r.m0 r.m1 r.m2 r.m3 r.m4 r.m5 r.m0 r.m1 r.m2 r.m3 r.m4 r.m5 9997 W
  rw [eq6_refl] at h6
  unfold rv
  rw [show (10000 : Nat) = 9999 + 1 from rfl, run_equalIn_struct W 9999 33 _ _ (by kernel_rfl) (by kernel_rfl)]
  simp [go_sem, h6, part]
theorem run_eqlR (r : Rr) (W : World) : (binOp .eql 33 (rv r) (rv r)).run Tryz.prog W = .ok (.bool true) W := by
  have := run_eql_struct (P := Tryz.prog) W 33 #[.int .u32 r.a, .int .u8 r.m0, .int .u8 r.m1, .int .u8 r.m2, .int .u8 r.m3, .int .u8 r.m4, .int .u8 r.m5, .int .i64 r.u] #[.int .u32 r.a, .int .u8 r.m0, .int .u8 r.m1, .int .u8 r.m2, .int .u8 r.m3, .int .u8 r.m4, .int .u8 r.m5, .int .i64 r.u]
  rw [show Value.agg #[.int .u32 r.a, .int .u8 r.m0, .int .u8 r.m1, .int .u8 r.m2, .int .u8 r.m3, .int .u8 r.m4, .int .u8 r.m5, .int .i64 r.u] = rv r from rfl, run_eqR] at this
  exact this
theorem run_neqR (r : Rr) (W : World) : (binOp .neq 33 (rv r) (rv r)).run Tryz.prog W = .ok (.bool false) W := by
  have := run_neq_struct (P := Tryz.prog) W 33 #[.int .u32 r.a, .int .u8 r.m0, .int .u8 r.m1, .int .u8 r.m2, .int .u8 r.m3, .int .u8 r.m4, .int .u8 r.m5, .int .i64 r.u] #[.int .u32 r.a, .int .u8 r.m0, .int .u8 r.m1, .int .u8 r.m2, .int .u8 r.m3, .int .u8 r.m4, .int .u8 r.m5, .int .i64 r.u]
  rw [show Value.agg #[.int .u32 r.a, .int .u8 r.m0, .int .u8 r.m1, .int .u8 r.m2, .int .u8 r.m3, .int .u8 r.m4, .int .u8 r.m5, .int .i64 r.u] = rv r from rfl, run_eqR] at this
  exact this
theorem guardR (op : BinOp) (x y : Operand) (p q : Array Value) (W : World) : (eqGuard op 33 x y (.agg p) (.agg q)).run Tryz.prog W = .ok () W := run_eqGuard_agg W op 33 x y _ _ (by kernel_rfl)

/-- Two texts put together, under names. -/
theorem sadd {a b : List UInt8} {s t u : ByteArray} (hs : s = ⟨a.toArray⟩) (ht : t = ⟨b.toArray⟩) (hu : u = ⟨(a ++ b).toArray⟩) (hl : a.length + b.length ≤ 1000) (W : World) : (Op.stringOp .add s t).run Tryz.prog W = .ok (.string u) W := by
  subst hs ht hu
  have e : (⟨a.toArray⟩ : ByteArray) ++ ⟨b.toArray⟩ = ⟨(a ++ b).toArray⟩ := Ad.cat a b
  have h1 : (⟨a.toArray⟩ : ByteArray).size = a.length := by show a.toArray.size = _; simp
  have h2 : (⟨b.toArray⟩ : ByteArray).size = b.length := by show b.toArray.size = _; simp
  rw [run_string_add_sum (P := Tryz.prog) W _ _ (by rw [h1, h2]; omega), e]

/-! ### The words of lines that are put together -/
theorem wl_app : ∀ {x r : List UInt8}, (32 : UInt8) ∉ x → wl (x ++ 32 :: r) = x :: wl r
  | [], r, _ => by simp [wl]
  | c :: x, r, h => by
    have h1 : ¬ c = 32 := fun e => h (by simp [e])
    have h2 := wl_app (x := x) (r := r) (fun m => h (by simp [m]))
    simp only [List.cons_append, wl, if_neg h1, h2]
theorem wl_one : ∀ {x : List UInt8}, (32 : UInt8) ∉ x → wl x = [x]
  | [], _ => rfl
  | c :: x, h => by
    have h1 : ¬ c = 32 := fun e => h (by simp [e])
    have h2 := wl_one (x := x) (fun m => h (by simp [m]))
    simp only [wl, if_neg h1, h2]

theorem pu_app : ∀ (l r : List UInt8) (n k : Nat), Lib.parseUint10 n l = .ok k → Lib.parseUint10 n (l ++ r) = Lib.parseUint10 k r
  | [], r, n, k, h => by simp only [Lib.parseUint10, Lib.NumEnd.ok.injEq] at h; subst h; rfl
  | c :: l, r, n, k, h => by
    simp only [Lib.parseUint10] at h
    simp only [List.cons_append, Lib.parseUint10]
    split at h
    · rename_i hc
      rw [if_pos hc]
      split at h
      · cases h
      · rename_i h1
        rw [if_neg h1]
        split at h
        · cases h
        · rename_i h2
          rw [if_neg h2]
          exact pu_app l r _ k h
    · cases h
theorem pu_one (n d : Nat) (hd : d < 10) (h : n * 10 + d < 18446744073709551616) (hn : n < 1844674407370955162) : Lib.parseUint10 n [UInt8.ofNat (48 + d)] = .ok (n * 10 + d) := by
  have e : (UInt8.ofNat (48 + d)).toNat = 48 + d := by simp; omega
  simp only [Lib.parseUint10, e]
  rw [if_pos (by omega), if_neg (by omega), if_neg (by omega)]
  congr 1
  omega
theorem pu_dd (u : Nat) (h : u < 9223372036854775808) : Lib.parseUint10 0 (Lib.decDigits u) = .ok u := by
  induction u using Nat.strongRecOn with
  | _ u ih =>
    by_cases hu : u < 10
    · rw [Ad.dd_small hu, pu_one 0 u hu (by omega) (by omega)]
      congr 1
      omega
    · rw [Ad.dd_big hu, pu_app _ _ _ _ (ih (u / 10) (by omega) (by omega)), pu_one (u / 10) (u % 10) (by omega) (by omega) (by omega)]
      congr 1
      omega
theorem dd_ne (u : Nat) : ∃ c r, Lib.decDigits u = c :: r ∧ 48 ≤ c.toNat := by
  have hm := Ad.dd_mem u
  cases h : Lib.decDigits u with
  | nil =>
    have := pu_dd 0 (by omega)
    by_cases hu : u < 10
    · rw [Ad.dd_small hu] at h; cases h
    · rw [Ad.dd_big hu] at h; simp at h
  | cons c r => exact ⟨c, r, rfl, (hm c (by rw [h]; simp)).1⟩
theorem atoi_dd (u : Nat) (h : u < 9223372036854775808) : Lib.atoiAll (Lib.decDigits u) = .ok (u : Int) := by
  have hp := pu_dd u h
  obtain ⟨c, r, hc, h48⟩ := dd_ne u
  rw [hc] at hp ⊢
  have e : Lib.parseMag (if c.toNat = 43 ∨ c.toNat = 45 then r else c :: r) = .ok u := by
    rw [if_neg (by omega)]
    unfold Lib.parseMag
    rw [if_neg (by simp)]
    exact hp
  simp only [Lib.atoiAll, e]
  rw [if_neg (by omega), if_neg (by omega), if_neg (by omega)]
theorem tk_dig (n : Int) (h0 : 0 ≤ n) (h1 : n ≤ 1099511627776) : tkO (Ad.dig n) = (n, 0) := by
  obtain ⟨u, rfl⟩ := Int.eq_ofNat_of_zero_le h0
  unfold Ad.dig
  rw [Int.toNat_natCast]
  simp only [tkO, atoi_dd u (by omega)]
  rw [Ad.itoa_pos h0]
  unfold Ad.dig
  rw [Int.toNat_natCast, if_pos rfl, if_neg (by omega)]
end Go.Proofs.YthpgmlijfcfddaaGreatDoor
