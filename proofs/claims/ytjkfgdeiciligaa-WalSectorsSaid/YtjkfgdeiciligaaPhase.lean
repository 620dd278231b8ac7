/-
  Rows of calls in phases, each ended by a flush: what the disk keeps, and what waits, behind all of them, or where one of them told an error. Plain data. Conditions: the disk is up, nothing waits, the sectors are there.
-/
import Derived.Test.YtjkfgdeiciligaaShow
namespace Go.Proofs.Ytjkfgdeiciligaa

abbrev Wr : Type := Nat × (Nat → Nat)
/-- All writes carried out. -/
def app (l : List Wr) (K : Nat → Nat → Nat) : Nat → Nat → Nat := kpa (fun _ => 64) l K l.length
def apps (P : List (List Wr)) (K : Nat → Nat → Nat) : Nat → Nat → Nat := P.foldl (fun K l => app l K) K
def dops (l : List Wr) : List Dop := l.map fun x => Dop.wr x.1 x.2
def phs (P : List (List Wr)) : List Dop := P.flatMap fun l => dops l ++ [.fl]

/-- What a row of calls leaves of a disk. -/
structure Ran (M : Dk) (K : Nat → Nat → Nat) (pd : List Wr) (e : Int) (M' : Dk) : Prop where
  n : M'.n = M.n
  kept : M'.kept = K
  pend : M'.pend = pd
  stop : M.stop = none → M'.stop = none ∧ e ≠ 9
  fail : M.fail = none → M'.fail = none ∧ e ≠ 10
  err : e = 0 ∧ M'.down = false ∨ e = 9 ∧ M'.down = true ∨ e = 10 ∧ M'.down = false

theorem err_cases (M : Dk) (h : M.down = false) : (M.err = 0 ∧ M.cnt.down = false) ∨ (M.err = 9 ∧ M.cnt.down = true) ∨ (M.err = 10 ∧ M.cnt.down = false) := by
  unfold Dk.err Dk.cnt
  cases h1 : rings M.stop <;> cases h2 : rings M.fail <;> simp [h]
theorem err_stop (M : Dk) (h : M.stop = none) : M.cnt.stop = none ∧ M.err ≠ 9 := by
  unfold Dk.err Dk.cnt
  rw [h]
  refine ⟨rfl, ?_⟩
  cases h2 : rings M.fail <;> simp [rings]
theorem err_fail (M : Dk) (h : M.fail = none) : M.cnt.fail = none ∧ M.err ≠ 10 := by
  unfold Dk.err Dk.cnt
  rw [h]
  refine ⟨rfl, ?_⟩
  cases h2 : rings M.stop <;> simp [rings]

theorem rfs_up {M : Dk} (hd : M.down = false) {a : Nat} (ha : a < M.n) : rfs M a = 0 := rfs_ok hd ha
theorem one_wr {M : Dk} (hd : M.down = false) {a : Nat} (ha : a < M.n) (s : Nat → Nat) :
    Ran M M.kept (if (M.one (.wr a s)).1 = 10 then M.pend else M.pend ++ [(a, s)]) (M.one (.wr a s)).1 (M.one (.wr a s)).2 := by
  have hr := rfs_up hd ha
  have e1 : (M.one (.wr a s)).1 = M.err := by simp [Dk.one, Dk.wer, hr]
  have e2 : (M.one (.wr a s)).2 = if M.err = 10 then M.cnt else { M.cnt with pend := M.pend ++ [(a, s)] } := by
    simp only [Dk.one, Dk.wr]
    rw [if_pos hr]
    simp
  rw [e1, e2]
  by_cases h : M.err = 10
  · rw [if_pos h, if_pos h]
    exact ⟨rfl, rfl, rfl, err_stop M, err_fail M, err_cases M hd⟩
  · rw [if_neg h, if_neg h]
    exact ⟨rfl, rfl, rfl, err_stop M, err_fail M, err_cases M hd⟩
theorem one_fl {M : Dk} (hd : M.down = false) :
    ((M.one .fl).1 = 0 ∧ Ran M (app M.pend M.kept) [] 0 (M.one .fl).2) ∨ ((M.one .fl).1 ≠ 0 ∧ Ran M M.kept M.pend (M.one .fl).1 (M.one .fl).2) := by
  have e1 : (M.one .fl).1 = M.err := by simp [Dk.one, Dk.fer, hd]
  have e2 : (M.one .fl).2 = if M.err = 0 then { M.cnt with kept := kpa (fun _ => 64) M.pend M.kept M.pend.length, pend := [] } else M.cnt := by
    simp only [Dk.one, Dk.fl]
    rw [hd]
    simp
  rw [e1, e2]
  by_cases h : M.err = 0
  · rw [if_pos h]
    refine .inl ⟨h, ⟨rfl, rfl, rfl, fun hs => ⟨(err_stop M hs).1, by omega⟩, fun hs => ⟨(err_fail M hs).1, by omega⟩, ?_⟩⟩
    rcases err_cases M hd with ⟨_, h2⟩ | ⟨h1, _⟩ | ⟨h1, _⟩
    · exact .inl ⟨rfl, h2⟩
    · omega
    · omega
  · rw [if_neg h]
    exact .inr ⟨h, ⟨rfl, rfl, rfl, err_stop M, err_fail M, err_cases M hd⟩⟩

theorem Ran.trans {M M1 M2 : Dk} {K K1 : Nat → Nat → Nat} {pd pd1 : List Wr} {e : Int} (h : Ran M K pd 0 M1) (g : Ran M1 K1 pd1 e M2) : Ran M K1 pd1 e M2 :=
  ⟨g.n.trans h.n, g.kept, g.pend, fun hs => g.stop (h.stop hs).1, fun hs => g.fail (h.fail hs).1, g.err⟩
theorem Ran.up {M M' : Dk} {K : Nat → Nat → Nat} {pd : List Wr} (h : Ran M K pd 0 M') : M'.down = false := by
  rcases h.err with ⟨_, h⟩ | ⟨h, _⟩ | ⟨h, _⟩
  · exact h
  · omega
  · omega
theorem Ran.refl {M : Dk} (h : M.down = false) : Ran M M.kept M.pend 0 M := ⟨rfl, rfl, rfl, fun h => ⟨h, by omega⟩, fun h => ⟨h, by omega⟩, .inl ⟨rfl, h⟩⟩

/-- Writes alone. -/
theorem go_writes : ∀ (l : List Wr) (M : Dk), M.down = false → (∀ x ∈ l, x.1 < M.n) →
    ((M.go (dops l)).1 = 0 ∧ Ran M M.kept (M.pend ++ l) 0 (M.go (dops l)).2) ∨
    ((M.go (dops l)).1 ≠ 0 ∧ ∃ l1 l2, l = l1 ++ l2 ∧ Ran M M.kept (M.pend ++ l1) (M.go (dops l)).1 (M.go (dops l)).2)
  | [], M, hd, _ => .inl ⟨rfl, by rw [List.append_nil]; exact Ran.refl hd⟩
  | x :: l, M, hd, hx => by
    have h1 := one_wr hd (hx x (List.mem_cons_self ..)) x.2
    have eg : M.go (dops (x :: l)) = if (M.one (.wr x.1 x.2)).1 = 0 then (M.one (.wr x.1 x.2)).2.go (dops l) else M.one (.wr x.1 x.2) := rfl
    rw [eg]
    by_cases he : (M.one (.wr x.1 x.2)).1 = 0
    · rw [if_pos he]
      rw [he, if_neg (by omega)] at h1
      rcases go_writes l (M.one (.wr x.1 x.2)).2 h1.up (fun y hy => by rw [h1.n]; exact hx y (List.mem_cons_of_mem _ hy)) with ⟨h2, h3⟩ | ⟨h2, l1, l2, rfl, h3⟩
      · refine .inl ⟨h2, ?_⟩
        have := h1.trans h3
        rwa [h1.kept, h1.pend, List.append_assoc, List.singleton_append] at this
      · refine .inr ⟨h2, x :: l1, l2, rfl, ?_⟩
        have := h1.trans h3
        rwa [h1.kept, h1.pend, List.append_assoc, List.singleton_append] at this
    · rw [if_neg he]
      refine .inr ⟨he, ?_⟩
      by_cases h10 : (M.one (.wr x.1 x.2)).1 = 10
      · rw [if_pos h10] at h1
        exact ⟨[], x :: l, rfl, by rw [List.append_nil]; exact h1⟩
      · rw [if_neg h10] at h1
        exact ⟨[x], l, rfl, h1⟩

theorem phs_cons (l : List Wr) (P : List (List Wr)) : phs (l :: P) = dops l ++ (.fl :: phs P) := by simp [phs]

/-- Phases: all of them, or up to an error. -/
theorem go_phs : ∀ (P : List (List Wr)) (M : Dk), M.down = false → M.pend = [] → (∀ l ∈ P, ∀ x ∈ l, x.1 < M.n) →
    ((M.go (phs P)).1 = 0 ∧ Ran M (apps P M.kept) [] 0 (M.go (phs P)).2) ∨
    ((M.go (phs P)).1 ≠ 0 ∧ ∃ P1 l1 l2 P2, P = P1 ++ (l1 ++ l2) :: P2 ∧ Ran M (apps P1 M.kept) l1 (M.go (phs P)).1 (M.go (phs P)).2)
  | [], M, hd, hp, _ => .inl ⟨rfl, by have := Ran.refl hd; rwa [hp] at this⟩
  | l :: P, M, hd, hp, hx => by
    rw [phs_cons]
    rcases go_writes l M hd (hx l (List.mem_cons_self ..)) with ⟨h1, h2⟩ | ⟨h1, l1, l2, rfl, h2⟩
    · rw [Dk.go_ok h1, Dk.go_cons]
      rcases one_fl h2.up with ⟨h3, h4⟩ | ⟨h3, h4⟩
      · rw [if_pos h3]
        have h5 := h2.trans h4
        rw [h2.kept, h2.pend, hp, List.nil_append] at h5
        rcases go_phs P _ h5.up h5.pend (fun l' hl x hx' => by rw [h5.n]; exact hx l' (List.mem_cons_of_mem _ hl) x hx') with ⟨h6, h7⟩ | ⟨h6, P1, l1, l2, P2, rfl, h7⟩
        · refine .inl ⟨h6, ?_⟩
          have := h5.trans h7
          rwa [h5.kept] at this
        · refine .inr ⟨h6, l :: P1, l1, l2, P2, rfl, ?_⟩
          have := h5.trans h7
          rwa [h5.kept] at this
      · rw [if_neg h3]
        refine .inr ⟨h3, [], l, [], P, by simp, ?_⟩
        have h5 := h2.trans h4
        rwa [h2.kept, h2.pend, hp, List.nil_append] at h5
    · rw [Dk.go_stop h1]
      refine .inr ⟨h1, [], l1, l2, P, rfl, ?_⟩
      rwa [hp, List.nil_append] at h2

/-- A stop that is nearer than the writes are many: they end there. -/
theorem go_near : ∀ (l : List Wr) (M : Dk) (s : Nat), M.down = false → (∀ x ∈ l, x.1 < M.n) → M.stop = some s → M.fail = none → s < l.length → (M.go (dops l)).1 = 9
  | [], M, s, _, _, _, _, h => by simp at h
  | x :: l, M, s, hd, hx, hs, hf, h => by
    have eg : M.go (dops (x :: l)) = if (M.one (.wr x.1 x.2)).1 = 0 then (M.one (.wr x.1 x.2)).2.go (dops l) else M.one (.wr x.1 x.2) := rfl
    have hr := rfs_up hd (hx x (List.mem_cons_self ..))
    have e1 : (M.one (.wr x.1 x.2)).1 = M.err := by simp [Dk.one, Dk.wer, hr]
    have e2 : (M.one (.wr x.1 x.2)).2 = if M.err = 10 then M.cnt else { M.cnt with pend := M.pend ++ [(x.1, x.2)] } := by
      simp only [Dk.one, Dk.wr]
      rw [if_pos hr]
      simp
    rw [eg]
    match s with
    | 0 =>
      have he : M.err = 9 := by simp [Dk.err, hs, rings]
      rw [if_neg (by rw [e1, he]; omega), e1, he]
    | s + 1 =>
      have he : M.err = 0 := by simp [Dk.err, hs, hf, rings]
      rw [if_pos (by rw [e1, he]), e2, if_neg (by omega)]
      refine go_near l _ s ?_ (fun y hy => hx y (List.mem_cons_of_mem _ hy)) ?_ ?_ (by simpa using h)
      · simp [Dk.cnt, hd, hs, rings]
      · simp [Dk.cnt, hs, tick]
      · simp [Dk.cnt, hf, tick]
end Go.Proofs.Ytjkfgdeiciligaa
