/-
  The contracts of formedEcho and formedArp: whether bytes are a packet's, but for sums. Conditions: rows of bytes that can be read.
-/
import Derived.Test.YtgdbkjiifliobaaEcho
namespace Go.Proofs.Ytgdbkjiifliobaa
open Go.RowKit

set_option maxRecDepth 100000 in
set_option maxHeartbeats 2000000 in
theorem fe_ways (x : Addr) (c z0 z2 z3 z9 z20 z21 : Nat) (w : World) (hc : 32 ≤ c) (h2 : z2 < 256) (h3 : z3 < 256)
    (c0 : w.cell? x = some (.int .u8 (z0 : Int))) (c2 : w.cell? ⟨x.block, x.off + 2, none⟩ = some (.int .u8 (z2 : Int))) (c3 : w.cell? ⟨x.block, x.off + 3, none⟩ = some (.int .u8 (z3 : Int)))
    (c9 : w.cell? ⟨x.block, x.off + 9, none⟩ = some (.int .u8 (z9 : Int))) (c20 : w.cell? ⟨x.block, x.off + 20, none⟩ = some (.int .u8 (z20 : Int))) (c21 : w.cell? ⟨x.block, x.off + 21, none⟩ = some (.int .u8 (z21 : Int)))  :
    Calls Try.prog 27 #[.slice (some x) 32 c] w fun e w' => e = .returned (.bool (decide (z0 = 69 ∧ 256 * z2 + z3 = 32 ∧ z9 = 1 ∧ (z20 = 8 ∨ z20 = 0) ∧ z21 = 0))) ∧ ∃ m, w' = w.drewN m := by
  have W1 := Lib.hid fun N => q_drew (wordOf_any ⟨x.block, x.off + 2, none⟩ 30 z2 z3 (c - 2) (w.drewN N) (by omega) h2 h3 c2 c3)
  have hz : ¬ c = 2 := by omega
  obtain ⟨u, hu⟩ : ∃ u, u = 256 * z2 + z3 := ⟨_, rfl⟩
  rw [← hu] at W1 ⊢
  clear hu c2 c3 h2 h3
  have S0 : (⟨#[69, 0, 0, 32, 0, 0, 0, 0, 64, 1]⟩ : ByteArray)[0].toNat = 69 := rfl
  have S9 : (⟨#[69, 0, 0, 32, 0, 0, 0, 0, 64, 1]⟩ : ByteArray)[9].toNat = 1 := rfl
  by_cases e0 : z0 = 69
  · have E0 : ((z0 : Int) == 69) = true := by simp; omega
    by_cases e1 : u = 32
    · have E1 : ((u : Int) == 32) = true := by simp; omega
      by_cases e2 : z9 = 1
      · have E2 : ((z9 : Int) == 1) = true := by simp; omega
        by_cases e3 : z20 = 8
        · have E3 : ((z20 : Int) == 8) = true := by simp; omega
          have F := Lib.hid (show decide (z0 = 69 ∧ u = 32 ∧ z9 = 1 ∧ (z20 = 8 ∨ z20 = 0) ∧ z21 = 0) = ((z21 : Int) == 0) by rw [Bool.eq_iff_iff]; simp; omega)
          clear  e0 e1 e2 e3
          go_enter Try.func27, Try.ntmps27
          go_wp2
          go_quiet ((go_at_call 28; (with_reducible exact W1.out _)))
          go_wp2
          go_ret
          exact ⟨ret_bool F.out.symm, nq, rfl⟩
        · have E3 : ((z20 : Int) == 8) = false := by simp; omega
          by_cases e9 : z20 = 0
          · have E9 : ((z20 : Int) == 0) = true := by simp; omega
            have F := Lib.hid (show decide (z0 = 69 ∧ u = 32 ∧ z9 = 1 ∧ (z20 = 8 ∨ z20 = 0) ∧ z21 = 0) = ((z21 : Int) == 0) by rw [Bool.eq_iff_iff]; simp; omega)
            clear  e0 e1 e2 e3 e9
            go_enter Try.func27, Try.ntmps27
            go_wp2
            go_quiet ((go_at_call 28; (with_reducible exact W1.out _)))
            go_wp2
            go_ret
            exact ⟨ret_bool F.out.symm, nq, rfl⟩
          · have E9 : ((z20 : Int) == 0) = false := by simp; omega
            have F := Lib.hid (show decide (z0 = 69 ∧ u = 32 ∧ z9 = 1 ∧ (z20 = 8 ∨ z20 = 0) ∧ z21 = 0) = false by rw [Bool.eq_iff_iff]; simp; omega)
            clear  e0 e1 e2 e3 e9
            go_enter Try.func27, Try.ntmps27
            go_wp2
            go_quiet ((go_at_call 28; (with_reducible exact W1.out _)))
            go_wp2
            go_ret
            exact ⟨ret_bool F.out.symm, nq, rfl⟩
      · have E2 : ((z9 : Int) == 1) = false := by simp; omega
        have F := Lib.hid (show decide (z0 = 69 ∧ u = 32 ∧ z9 = 1 ∧ (z20 = 8 ∨ z20 = 0) ∧ z21 = 0) = false by rw [Bool.eq_iff_iff]; simp; omega)
        clear  e0 e1 e2
        go_enter Try.func27, Try.ntmps27
        go_wp2
        go_quiet ((go_at_call 28; (with_reducible exact W1.out _)))
        go_wp2
        go_ret
        exact ⟨ret_bool F.out.symm, nq, rfl⟩
    · have E1 : ((u : Int) == 32) = false := by simp; omega
      have F := Lib.hid (show decide (z0 = 69 ∧ u = 32 ∧ z9 = 1 ∧ (z20 = 8 ∨ z20 = 0) ∧ z21 = 0) = false by rw [Bool.eq_iff_iff]; simp; omega)
      clear  e0 e1
      go_enter Try.func27, Try.ntmps27
      go_wp2
      go_quiet ((go_at_call 28; (with_reducible exact W1.out _)))
      go_wp2
      go_ret
      exact ⟨ret_bool F.out.symm, nq, rfl⟩
  · have E0 : ((z0 : Int) == 69) = false := by simp; omega
    have F := Lib.hid (show decide (z0 = 69 ∧ u = 32 ∧ z9 = 1 ∧ (z20 = 8 ∨ z20 = 0) ∧ z21 = 0) = false by rw [Bool.eq_iff_iff]; simp; omega)
    clear  e0
    go_enter Try.func27, Try.ntmps27
    go_wp2
    go_quiet ((go_at_call 28; (with_reducible exact W1.out _)))
    go_wp2
    go_ret
    exact ⟨ret_bool F.out.symm, nq, rfl⟩

/-- Whether bytes are an echo's, but for sums. -/
def fe (zs : List Nat) : Bool := decide (zs.length = 32) && decide (zs.getD 0 0 = 69 ∧ 256 * zs.getD 2 0 + zs.getD 3 0 = 32 ∧ zs.getD 9 0 = 1 ∧ (zs.getD 20 0 = 8 ∨ zs.getD 20 0 = 0) ∧ zs.getD 21 0 = 0)
theorem Rd.at {w : World} {x : Addr} {zs : List Nat} (h : Rd w (some x) zs) (k : Nat) (hk : k + 1 < zs.length) : w.cell? ⟨x.block, x.off + (k + 1), none⟩ = some (.int .u8 ((zs.getD (k + 1) 0 : Nat) : Int)) := by
  obtain ⟨y, hy, hc⟩ := h.2.2 (k + 1) hk
  injection hy with hy
  subst hy
  rw [add_succ] at hc
  exact hc
theorem Rd.at0 {w : World} {x : Addr} {zs : List Nat} (h : Rd w (some x) zs) (hk : 0 < zs.length) : w.cell? x = some (.int .u8 ((zs.getD 0 0 : Nat) : Int)) := by
  obtain ⟨y, hy, hc⟩ := h.2.2 0 hk
  injection hy with hy
  subst hy
  rw [show x.add 0 = x by unfold Addr.add; rw [if_pos rfl]] at hc
  exact hc
theorem Rd.some {w : World} {A : Option Addr} {zs : List Nat} (h : Rd w A zs) (hk : 0 < zs.length) : ∃ x, A = .some x := by
  obtain ⟨y, hy, _⟩ := h.2.2 0 hk
  exact ⟨y, hy⟩
theorem formedEcho_any (A : Option Addr) (zs : List Nat) (c : Nat) (w : World) (h : Rd w A zs) (hc : zs.length ≤ c) :
    Calls Try.prog 27 #[.slice A zs.length c] w fun e w' => e = .returned (.bool (fe zs)) ∧ ∃ m, w' = w.drewN m := by
  unfold fe
  by_cases hl : zs.length = 32
  · obtain ⟨x, rfl⟩ := h.some (by omega)
    rw [hl] at hc ⊢
    rw [decide_eq_true rfl, Bool.true_and]
    exact fe_ways x c _ _ _ _ _ _ w hc (h.2.1 2) (h.2.1 3) (h.at0 (by omega)) (h.at 1 (by omega)) (h.at 2 (by omega)) (h.at 8 (by omega)) (h.at 19 (by omega)) (h.at 20 (by omega))
  · rw [decide_eq_false hl, Bool.false_and]
    have E : ((zs.length : Int) == 32) = false := by simp; omega
    clear hl h
    generalize zs.length = n at *
    go_enter Try.func27, Try.ntmps27
    go_wp2
    go_quiet (fail)
    go_wp2
    go_ret
    exact ⟨rfl, nq, rfl⟩
end Go.Proofs.Ytgdbkjiifliobaa
