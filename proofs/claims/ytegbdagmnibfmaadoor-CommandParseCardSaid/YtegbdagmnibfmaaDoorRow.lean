/-
  A row of words of the call's own while it is put together. No condition.
-/
import Derived.Test.YtegbdagmnibfmaaDoorLin
set_option linter.unusedSimpArgs false
set_option linter.unusedVariables false
namespace Go.Proofs.YtegbdagmnibfmaaDoor
open Go.RowKit

theorem own_keep {w w' : World} {base : Nat} {e : TypeId} {size : Nat} {v : Value} {n : Nat} {xs : List Value} (h : w.ownsRow base e size v n xs) (hb : Below w.heap.size w w') : w'.ownsRow base e size v n xs := by
  refine ⟨h.1, h.2.imp id ?_⟩
  rintro ⟨g, cap, cur, e1, e2, e3, r⟩
  refine ⟨g, cap, cur, e1, e2, ?_, r⟩
  rw [hb.block g (Array.getElem?_eq_some_iff.1 e3).1]
  exact e3
theorem own_len {w : World} {base : Nat} {e : TypeId} {v : Value} {n : Nat} {xs : List Value} (h : w.ownsRow base e 1 v n xs) : xs.length = n := by have := h.1; omega
theorem own_cap {w : World} {base g n c : Nat} {e : TypeId} {xs : List Value} (h : w.ownsRow base e 1 (.slice (some ⟨g, 0, none⟩) n c) n xs) : n ≤ c := by
  rcases h.2 with ⟨h', _⟩ | ⟨g', cap', cur, h', _, _, hle, _⟩
  · simp at h'
  · simp only [Value.slice.injEq, Option.some.injEq, Addr.mk.injEq, and_true, true_and] at h'
    obtain ⟨rfl, rfl⟩ := h'
    exact hle
/-- A row of lo to hi words, of up to M bytes together, in a block that was not there in w2. -/
def RL (w2 : World) (M lo hi : Nat) (v : Value) (wr : World) : Prop :=
  ∃ g n cap xs, v = .slice (some ⟨g, 0, none⟩) n cap ∧ lo ≤ n ∧ n ≤ hi ∧ w2.heap.size ≤ g ∧ wr.ownsRow w2.heap.size 9 1 (.slice (some ⟨g, 0, none⟩) n cap) n xs ∧ Str xs ∧ tot xs ≤ M ∧ Below w2.heap.size w2 wr
theorem RL.mono {w2 wr : World} {M lo hi M' lo' hi' : Nat} {v : Value} (h : RL w2 M lo hi v wr) (h1 : M ≤ M') (h2 : lo' ≤ lo) (h3 : hi ≤ hi') : RL w2 M' lo' hi' v wr := by
  obtain ⟨g, n, cap, xs, a1, a2, a3, a4, a5, a6, a7, a8⟩ := h
  exact ⟨g, n, cap, xs, a1, by omega, by omega, a4, a5, a6, by omega, a8⟩
theorem RL.keep {w2 wr wr' : World} {M lo hi : Nat} {v : Value} (h : RL w2 M lo hi v wr) (hb : Below wr.heap.size wr wr') : RL w2 M lo hi v wr' := by
  obtain ⟨g, n, cap, xs, a1, a2, a3, a4, a5, a6, a7, a8⟩ := h
  exact ⟨g, n, cap, xs, a1, a2, a3, a4, own_keep a5 hb, a6, a7, a8.trans (hb.mono a8.size)⟩
theorem RL.parts {w2 wr : World} {M lo hi g n cap : Nat} (h : RL w2 M lo hi (.slice (some ⟨g, 0, none⟩) n cap) wr) :
    lo ≤ n ∧ n ≤ hi ∧ w2.heap.size ≤ g ∧ ∃ xs, wr.ownsRow w2.heap.size 9 1 (.slice (some ⟨g, 0, none⟩) n cap) n xs ∧ Str xs ∧ tot xs ≤ M ∧ Below w2.heap.size w2 wr := by
  obtain ⟨g', n', cap', xs, a1, a2, a3, a4, a5, a6, a7, a8⟩ := h
  simp only [Value.slice.injEq, Option.some.injEq, Addr.mk.injEq, and_true, true_and] at a1
  obtain ⟨rfl, rfl, rfl⟩ := a1
  exact ⟨a2, a3, a4, xs, a5, a6, a7, a8⟩
theorem str_app {xs : List Value} {u : Value} (h : Str xs) (hu : ∃ s : ByteArray, u = .string s) : Str (xs ++ [u]) := fun v hv => by
  rcases List.mem_append.1 hv with h1 | h1
  · exact h v h1
  · rw [List.mem_singleton.1 h1]; exact hu
theorem tot_app (xs : List Value) (u : Value) : tot (xs ++ [u]) = tot xs + szv u := by simp [tot]
theorem str_set {xs : List Value} {u : Value} (h : Str xs) (j : Nat) (hu : ∃ s : ByteArray, u = .string s) : Str (xs.set j u) := fun v hv => by
  rcases List.mem_or_eq_of_mem_set hv with h1 | h1
  · exact h v h1
  · rw [h1]; exact hu
theorem tot_set : ∀ (xs : List Value) (j : Nat) (u : Value), tot (xs.set j u) ≤ tot xs + szv u
  | [], _, _ => by simp [tot]
  | x :: xs, 0, u => by simp [tot]; omega
  | x :: xs, j + 1, u => by
    have := tot_set xs j u
    simp [tot] at this ⊢
    omega
theorem tot_cut : ∀ (xs : List Value) (j : Nat), tot (xs.take j) ≤ tot xs
  | [], _ => by simp [tot]
  | x :: xs, 0 => by simp [tot]
  | x :: xs, j + 1 => by
    have := tot_cut xs j
    simp [tot] at this ⊢
    omega
theorem rl_app {w2 wr w3 : World} {M lo hi g n cap g3 cap3 : Nat} {xs : List Value} {u : Value} {ob : Obj} (hlo : lo ≤ n) (hhi : n ≤ hi) (hg : w2.heap.size ≤ g) (hS : Str xs) (hT : tot xs ≤ M) (D : Below w2.heap.size w2 wr) (hu : ∃ s : ByteArray, u = .string s)
    (hown : w3.ownsRow w2.heap.size 9 1 (.slice (some ⟨g3, 0, none⟩) (n + 1) cap3) (n + 1) (xs ++ [u])) (hgrow : (wr.alloc ob).grownBy w3 (Value.slice (some ⟨g, 0, none⟩) n cap).ownBlock) (hat : (Value.slice (some ⟨g, 0, none⟩) n cap).ownBlock = some g3 ∨ g3 = wr.heap.size + 1) :
    RL w2 (M + szv u) (lo + 1) (hi + 1) (.slice (some ⟨g3, 0, none⟩) (n + 1) cap3) w3 := by
  have hs := D.size
  refine ⟨g3, n + 1, cap3, _, rfl, by omega, by omega, ?_, hown, str_app hS hu, by rw [tot_app]; omega, (D.alloc hs ob).grown hgrow (by simp; omega) fun j hj => by simp [Value.ownBlock] at hj; omega⟩
  rcases hat with h | h
  · simp [Value.ownBlock] at h; omega
  · omega
theorem rl_set {w2 wr : World} {M lo hi g n cap : Nat} {xs : List Value} (j : Nat) (u : Value) (hlo : lo ≤ n) (hhi : n ≤ hi) (hg : w2.heap.size ≤ g) (hown : wr.ownsRow w2.heap.size 9 1 (.slice (some ⟨g, 0, none⟩) n cap) n xs) (hS : Str xs) (hT : tot xs ≤ M) (D : Below w2.heap.size w2 wr) (hu : ∃ s : ByteArray, u = .string s) :
    RL w2 (M + szv u) lo hi (.slice (some ⟨g, 0, none⟩) n cap) (wr.setCell ⟨g, j, none⟩ u) :=
  ⟨g, n, cap, _, rfl, hlo, hhi, hg, (hown.stored j u).1, str_set hS j hu, Nat.le_trans (tot_set xs j u) (by omega), D.setCell (show w2.heap.size ≤ g from hg) u⟩
theorem rl_rt {w2 wr : World} {M lo hi M' : Nat} {v : Value} (h : RL w2 M lo hi v wr) (h5 : hi ≤ 5) (hM : M ≤ M') : Rt M' v wr := by
  obtain ⟨g, n, cap, xs, rfl, a2, a3, a4, a5, a6, a7, a8⟩ := h
  have hl := own_len a5
  refine ⟨g, cap, xs, by rw [hl], by omega, fun j u hu => ?_, a6, by omega⟩
  rw [a5.cellAt j (by have := (List.getElem?_eq_some_iff.1 hu).1; omega)]
  exact hu
theorem rt_cut {w2 wr : World} {M g n cap : Nat} {xs : List Value} (hn : n ≤ 5) (hown : wr.ownsRow w2.heap.size 9 1 (.slice (some ⟨g, 0, none⟩) n cap) n xs) (hS : Str xs) (hT : tot xs ≤ M) : Rt M (.slice (some ⟨g, 0, none⟩) (n - 1) cap) wr := by
  have hl := own_len hown
  have hl2 : (xs.take (n - 1)).length = n - 1 := by rw [List.length_take]; omega
  refine ⟨g, cap, xs.take (n - 1), by rw [hl2], by omega, fun j u hu => ?_, fun u hu => hS u (List.mem_of_mem_take hu), Nat.le_trans (tot_cut xs _) hT⟩
  have hj := (List.getElem?_eq_some_iff.1 hu).1
  rw [hl2] at hj
  rw [hown.cellAt j (by omega)]
  rw [List.getElem?_take, if_pos hj] at hu
  exact hu
theorem run_size9 (W : World) : (Go.sizeOf 9).run Tryd.prog W = .ok 1 W := by
  obtain ⟨i, hi, hs⟩ := Option.map_eq_some_iff.1 size9
  rw [← hs]
  simp [Go.sizeOf, typeInfo, hi]
theorem run_sl27 (A : Option Addr) (n c i : Nat) (hi : i ≤ c) (W : World) : (Instr.slice 27 (.slice A n c) none (some (.int .i64 (i : Int))) none).run Tryd.prog W = .ok (.slice A i c) W := by
  have h1 : (i : Int) ≤ c := by omega
  have h2 : A.map (·.add (0 * 1)) = A := by cases A <;> simp [Addr.add]
  unfold Instr.slice Instr.sliceBounds Instr.sliceBound
  simp only [Sem.run_bind, run_underlying Tryd.underlying27, Result.andThen_ok, Sem.run_pure, run_size9, asIntOf]
  try simp only [Option.isSome_none, Bool.false_eq_true, if_false, Sem.run_bind, Sem.run_pure, Result.andThen_ok]
  rw [if_pos ⟨by omega, h1⟩]
  simp only [Sem.run_bind, Sem.run_pure, Result.andThen_ok, h2, ite_self, Nat.sub_zero, Int.toNat_natCast]
/-- The first two words. -/
def rR (w2 : World) (K T : ByteArray) : Value → World → Prop := fun v W => ∃ g, v = .slice (some ⟨g, 0, none⟩) 2 2 ∧ w2.heap.size ≤ g ∧ W.ownsRow w2.heap.size 9 1 (.slice (some ⟨g, 0, none⟩) 2 2) 2 [.string K, .string T]
theorem stable_rR (w2 : World) (K T : ByteArray) : Stable (rR w2 K T) := fun _ _ _ ⟨g, h1, h2, h3⟩ hb => ⟨g, h1, h2, own_keep h3 hb⟩
theorem rR_new (w2 W : World) (K T : ByteArray) (h : w2.heap.size ≤ W.heap.size) : rR w2 K T (.slice (some ⟨W.heap.size, 0, none⟩) 2 2) (W.alloc (.cells #[.string K, .string T] 9)) :=
  ⟨_, rfl, h, World.ownsRow_lit W #[.string K, .string T] 2 h (by unfold maxLen; omega) rfl⟩
theorem nm_size {k : Int} (h0 : 0 ≤ k) (h1 : k < 8) : (nm k).size ≤ 7 := by
  rcases lt8 h0 h1 with rfl | rfl | rfl | rfl | rfl | rfl | rfl | rfl <;> decide
/-- Numbers of an event of commands are in their bounds. -/
theorem Ve.bd {x : Ev} (h : Ve x) : (0 ≤ x.a ∧ x.a < 4294967296) ∧ (0 ≤ x.b ∧ x.b < 4294967296 ∧ 0 ≤ x.n ∧ x.n ≤ 32) ∧ x.o.size ≤ 8 ∧ Mc.Six x.c0 x.c1 x.c2 x.c3 x.c4 x.c5 ∧ Kd x.k := by
  have z6 : Mc.Six 0 0 0 0 0 0 := ⟨by decide, by decide, by decide, by decide, by decide, by decide, by decide, by decide, by decide, by decide, by decide, by decide⟩
  rcases h with h | h | h
  · obtain ⟨n0, n1, -⟩ := Ad.ok_out h.ok
    have hk := h.k
    have hb := h.b0
    have hb1 := h.b1
    rw [h.z]
    dsimp only
    refine ⟨⟨by decide, by decide⟩, ⟨hb, hb1, n0, n1⟩, by decide, z6, ?_⟩
    unfold Kd
    simp at hk
    omega
  · have hk := h.k
    have ha := h.a0
    have ha1 := h.a1
    rw [h.z]
    dsimp only
    exact ⟨⟨ha, ha1⟩, ⟨by decide, by decide, by decide, by decide⟩, by decide, z6, by unfold Kd; omega⟩
  · have hm := may_bytes h.may
    have ha := h.a0
    have ha1 := h.a1
    have hs := h.six
    rw [h.z]
    dsimp only
    exact ⟨⟨ha, ha1⟩, ⟨by decide, by decide, by decide, by decide⟩, hm.1, hs, .inl rfl⟩
end Go.Proofs.YtegbdagmnibfmaaDoor
