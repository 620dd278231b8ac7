/-
  The contract of awake: it returns true, and turns nothing that was there. No condition.
-/
import Derived.Test.YtjkfgdeiciligaaFlush
import Derived.Lib.QuietBelow
import Derived.Deep.CutRange
set_option linter.unusedSimpArgs false
namespace Go.Proofs.Ytjkfgdeiciligaa
open Go.RowKit

theorem Ds.regrown {w : World} {p k : Nat} {pv : Value} {M : Dk} (h : Ds w p k pv M) (d : Nat) (os : Array Obj) : Ds (Sort.grow (redrawn w d) os) p k pv M := h.below (below_regrown w d os)
theorem same_re {f : FuncId} {args : Array Value} {w : World} {d : Nat} {os : Array Obj} {v : Value} (h : Calls Try.prog f args (Sort.grow (redrawn w d) os) fun e w' => e = .returned v ∧ Sort.grow (redrawn w d) os = w') : Calls Try.prog f args (Sort.grow (redrawn w d) os) fun e w'' => e = .returned v ∧ ∃ p : Regrown, w'' = Sort.grow (redrawn w p.d) p.os :=
  Calls.regrown_of (h.mono fun _ _ ⟨he, hw⟩ => ⟨he, hw ▸ Below.refl _ _⟩)
section
variable {w : World} {p k : Nat} {pv : Value} {M : Dk}
theorem size_re (h : Ds w p k pv M) (d : Nat) (os : Array Obj) : Calls Try.prog 29 #[.pointer (some ⟨p, 0, none⟩)] (Sort.grow (redrawn w d) os) fun e w'' => e = .returned (.int .i64 (M.n : Int)) ∧ ∃ q : Regrown, w'' = Sort.grow (redrawn w q.d) q.os := same_re (size_any p k pv M _ (h.regrown d os))
theorem wait_re (h : Ds w p k pv M) (d : Nat) (os : Array Obj) : Calls Try.prog 26 #[.pointer (some ⟨p, 0, none⟩)] (Sort.grow (redrawn w d) os) fun e w'' => e = .returned (.int .i64 (M.pend.length : Int)) ∧ ∃ q : Regrown, w'' = Sort.grow (redrawn w q.d) q.os := same_re (wait_any p k pv M _ (h.regrown d os))
theorem down_re (h : Ds w p k pv M) (d : Nat) (os : Array Obj) : Calls Try.prog 30 #[.pointer (some ⟨p, 0, none⟩)] (Sort.grow (redrawn w d) os) fun e w'' => e = .returned (.bool M.down) ∧ ∃ q : Regrown, w'' = Sort.grow (redrawn w q.d) q.os := same_re (down_any p k pv M _ (h.regrown d os))
theorem calls_re (h : Ds w p k pv M) (d : Nat) (os : Array Obj) : Calls Try.prog 28 #[.pointer (some ⟨p, 0, none⟩)] (Sort.grow (redrawn w d) os) fun e w'' => e = .returned (.int .i64 (M.calls : Int)) ∧ ∃ q : Regrown, w'' = Sort.grow (redrawn w q.d) q.os := same_re (calls_any p k pv M _ (h.regrown d os))
end

/-- A new sector with these bytes. -/
def stored (w : World) (s : Nat → Nat) : World := (w.alloc Z64).setCells w.heap.size 0 (sc s)
theorem thereZ (w : World) : (w.alloc Z64).there w.heap.size 0 64 := rowIs_there (rowZ w) (by omega)
theorem stored_below (w : World) (s : Nat → Nat) : Below w.heap.size w (stored w s) := below_setCells w.heap.size (sc s) 0 ((Below.refl _ w).alloc (Nat.le_refl _) Z64) (Nat.le_refl _)
theorem stored_range (w : World) (s : Nat → Nat) : (stored w s).rangeAt w.heap.size 0 (sc s) := World.rangeAt_setCells_same (w.alloc Z64) w.heap.size 0 (sc s) (by rw [sc_length]; exact thereZ w)
theorem stored_size (w : World) (s : Nat → Nat) : w.heap.size < (stored w s).heap.size := by
  have := stored_range w s 0 _ (sc_get (j := 0) (by omega))
  exact block_lt_of_cell this
theorem range_below {w w' : World} {b o : Nat} {vs : List Value} (h : w.rangeAt b o vs) (hb : Below w.heap.size w w') : w'.rangeAt b o vs := fun j v hv => by
  have hc := h j v hv
  rw [World.cell?_of_block (hb.block b (block_lt_of_cell hc))]
  exact hc
theorem range_cell {w : World} {b : Nat} {s : Nat → Nat} (h : w.rangeAt b 0 (sc s)) {j : Nat} (hj : j < 64) : w.cell? ⟨b, j, none⟩ = some (.int .u8 (s j : Int)) := by
  have := h j _ (sc_get hj)
  rwa [Nat.zero_add] at this
theorem ft_new {p k B : Nat} (hp : B ≤ p) (hk : B ≤ k) : ∀ b, ft p k (.slice none 0 0) b → B ≤ b := by
  rintro b (h | h | h)
  · omega
  · omega
  · simp [Value.ownBlock] at h
theorem err_none {M : Dk} (h1 : M.stop = none) (h2 : M.fail = none) : M.err = 0 := by simp [Dk.err, h1, h2, rings]

end Go.Proofs.Ytjkfgdeiciligaa
