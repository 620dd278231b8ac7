/-
  The contracts of Write, Flush and Read in one form each, whatever becomes of them. Conditions: a disk is there, and fewer than a million calls were counted.
-/
import Derived.Test.YtjkfgdeiciligaaEq
namespace Go.Proofs.Ytjkfgdeiciligaa
open Go.RowKit

/-- What Write tells. -/
def Dk.wer (M : Dk) (n : Int) : Int := if rfs M n = 0 then M.err else rfs M n
/-- What Write makes. -/
def Dk.wr (M : Dk) (n : Int) (s : Nat → Nat) : Dk := if rfs M n = 0 then (if M.err = 10 then M.cnt else { M.cnt with pend := M.pend ++ [(n.toNat, s)] }) else M
/-- What Flush tells, and makes. -/
def Dk.fer (M : Dk) : Int := if M.down then 9 else M.err
def Dk.fl (M : Dk) : Dk := if M.down then M else if M.err = 0 then { M.cnt with kept := kpa (fun _ => 64) M.pend M.kept M.pend.length, pend := [] } else M.cnt
/-- What Restart makes. -/
def Dk.rs (M : Dk) (mask : Nat) (torn bytes : Int) : Dk := { M with kept := kpa (amt mask torn bytes) M.pend M.kept M.pend.length, pend := [], stop := none, fail := none, down := false }
/-- What Read gives. -/
def Dk.rd (M : Dk) (n : Int) : Nat → Nat := if rfs M n = 0 then lat M.pend n.toNat (M.kept n.toNat) else zer

theorem rfs_zero {M : Dk} {n : Int} (h : rfs M n = 0) : M.down = false ∧ ∃ m : Nat, n = m ∧ m < M.n := by
  unfold rfs at h
  cases hd : M.down
  · rw [hd] at h
    by_cases hn : 0 ≤ n ∧ n < M.n
    · exact ⟨rfl, n.toNat, by omega, by omega⟩
    · rw [if_neg hn] at h
      simp at h
  · rw [hd] at h
    simp at h

theorem write_any (p k : Nat) (pv : Value) (M : Dk) (n : Int) (s : Nat → Nat) (w : World) (h : Ds w p k pv M) (hc : M.calls + 1 < 1000000) :
    Calls Try.prog 45 #[.pointer (some ⟨p, 0, none⟩), .int .i64 n, sv s] w fun e w' => e = .returned (.int .i64 (M.wer n)) ∧ ∃ pv', Ds w' p k pv' (M.wr n s) ∧ Step w w' (ft p k pv) (ft p k pv') := by
  unfold Dk.wer Dk.wr
  by_cases hr : rfs M n = 0
  · rw [if_pos hr, if_pos hr]
    obtain ⟨hd, m, rfl, hm⟩ := rfs_zero hr
    by_cases he : M.err = 10
    · rw [if_pos he]
      refine (write_fails p k pv M m s w h hd hm hc he).mono ?_
      rintro e w' ⟨rfl, h1, h2⟩
      exact ⟨by rw [he], pv, h1, h2⟩
    · rw [if_neg he]
      exact write_ok p k pv M m s M.err w h hd hm hc rfl he
  · rw [if_neg hr, if_neg hr]
    refine (write_no p k pv M n s w h hr).mono ?_
    rintro e w' ⟨rfl, hb⟩
    exact ⟨rfl, pv, h.below hb, Step.of_below hb _⟩

theorem flush_any (p k : Nat) (pv : Value) (M : Dk) (w : World) (h : Ds w p k pv M) (hc : M.calls + 1 < 1000000) :
    Calls Try.prog 46 #[.pointer (some ⟨p, 0, none⟩)] w fun e w' => e = .returned (.int .i64 M.fer) ∧ ∃ pv', Ds w' p k pv' M.fl ∧ Step w w' (ft p k pv) (ft p k pv') := by
  unfold Dk.fer Dk.fl
  cases hd : M.down
  · by_cases he : M.err = 0
    · rw [if_pos he]
      refine (flush_ok p k pv M w h hd hc he).mono ?_
      rintro e w' ⟨rfl, h1, h2⟩
      exact ⟨by rw [he]; rfl, _, h1, h2⟩
    · rw [if_neg he]
      refine (flush_err p k pv M _ w h hd hc rfl he).mono ?_
      rintro e w' ⟨rfl, h1, h2⟩
      exact ⟨rfl, _, h1, h2⟩
  · refine (flush_no p k pv M w h hd).mono ?_
    rintro e w' ⟨rfl, rfl⟩
    exact ⟨rfl, pv, h, Step.refl _ _⟩

theorem read_any (p k : Nat) (pv : Value) (M : Dk) (n : Int) (w : World) (h : Ds w p k pv M) :
    Calls Try.prog 24 #[.pointer (some ⟨p, 0, none⟩), .int .i64 n] w fun e w' => e = .returned (.tuple #[sv (M.rd n), .int .i64 (rfs M n)]) ∧ Below w.heap.size w w' := by
  unfold Dk.rd
  by_cases hr : rfs M n = 0
  · obtain ⟨hd, m, rfl, hm⟩ := rfs_zero hr
    rw [if_pos hr, hr]
    exact read_ok p k pv M m w h hd hm
  · rw [if_neg hr]
    exact read_no p k pv M n w h hr
end Go.Proofs.Ytjkfgdeiciligaa
