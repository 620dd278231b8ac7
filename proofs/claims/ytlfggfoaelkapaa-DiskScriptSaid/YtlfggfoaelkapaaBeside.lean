/-
  What DiskAgain awaits, a row of bytes that came in, and a sector of the caller's own beside a disk. No condition.
-/
import Derived.Test.YtlfggfoaelkapaaAny
set_option linter.unusedSimpArgs false
namespace Go.Proofs.Ytlfggfoaelkapaa
open Go.RowKit

/-- The bytes that a slice's value has, wherever they lie. -/
def Rd (w : World) (A : Option Addr) (zs : List Nat) : Prop :=
  zs.length ≤ 140737488355328 ∧ (∀ i, zs.getD i 0 < 256) ∧ ∀ k, k < zs.length → ∃ x, A = some x ∧ w.cell? (x.add k) = some (.int .u8 ((zs.getD k 0 : Nat) : Int))
theorem Rd.below {w w' : World} {A : Option Addr} {zs : List Nat} (h : Rd w A zs) (hb : Below w.heap.size w w') : Rd w' A zs := by
  refine ⟨h.1, h.2.1, fun k hk => ?_⟩
  obtain ⟨x, hx, hc⟩ := h.2.2 k hk
  exact ⟨x, hx, (hb.cell (World.block_lt_of_cell? _ _ hc)).trans hc⟩

/-- What the last one of the writes that are kept has written. -/
def wan (zs : List Nat) (mask : Nat) : Nat → Nat → Nat
  | 0 => zer
  | q + 1 => if mask / 2 ^ q % 2 = 1 then sec (zs.getD q 0) else wan zs mask q
/-- The first writes. -/
def pds (a : Nat) (zs : List Nat) (q : Nat) : List (Nat × (Nat → Nat)) := (List.range q).map fun i => (a, sec (zs.getD i 0))
theorem pds_succ (a : Nat) (zs : List Nat) (q : Nat) : pds a zs (q + 1) = pds a zs q ++ [(a, sec (zs.getD q 0))] := by simp [pds, List.range_succ]
theorem pds_get {a : Nat} {zs : List Nat} {q L : Nat} (h : q < L) : (pds a zs L)[q]? = some (a, sec (zs.getD q 0)) := by simp [pds, h]
theorem pds_length (a : Nat) (zs : List Nat) (q : Nat) : (pds a zs q).length = q := by simp [pds]
theorem kpa_wan {a : Nat} {zs : List Nat} {mask L : Nat} (hL : L ≤ 64) {j : Nat} (hj : j < 64) : ∀ q, q ≤ L → kpa (amt mask (-1) 0) (pds a zs L) (fun _ => zer) q a j = wan zs mask q j
  | 0, _ => rfl
  | q + 1, h => by
    rw [kpa_succ (pds_get (show q < L by omega)), wan]
    have ih := kpa_wan (a := a) (zs := zs) (mask := mask) hL hj q (by omega)
    have e : amt mask (-1) 0 q = if mask / 2 ^ q % 2 = 1 then 64 else 0 := by
      unfold amt
      rw [if_neg (show ¬ (q : Int) = -1 by omega), Nat.mod_eq_of_lt (show q < 64 by omega)]
    rw [e]
    by_cases hb : mask / 2 ^ q % 2 = 1
    · rw [if_pos hb, if_pos hb]
      simp [ov, hj]
    · rw [if_neg hb, if_neg hb, ov_zero, ih]

/-- A sector of the caller's own, beside a disk. -/
structure Vs (w : World) (p k : Nat) (pv : Value) (V : Nat) (s : Nat → Nat) : Prop where
  lt : V < w.heap.size
  nf : ¬ ft p k pv V
  rg : w.rangeAt V 0 (sc s)
  th : w.there V 0 64
theorem there_of_block {w w' : World} {b o n : Nat} (h : w.there b o n) (e : w'.heap[b]? = w.heap[b]?) : w'.there b o n := fun j hj => by
  rw [World.cell?_of_block e, World.frozen?_of_block e]
  exact h j hj
theorem range_of_block {w w' : World} {b o : Nat} {vs : List Value} (h : w.rangeAt b o vs) (e : w'.heap[b]? = w.heap[b]?) : w'.rangeAt b o vs := fun j v hv => by
  rw [World.cell?_of_block e]
  exact h j v hv
theorem Vs.step {w w' : World} {p k : Nat} {pv pv' : Value} {V : Nat} {s : Nat → Nat} (h : Vs w p k pv V s) (g : Step w w' (ft p k pv) (ft p k pv')) : Vs w' p k pv' V s :=
  ⟨Nat.lt_of_lt_of_le h.lt g.size, fun hf => (g.foot V hf).elim h.nf (fun e => by have := h.lt; omega), range_of_block h.rg (g.block V h.lt h.nf), there_of_block h.th (g.block V h.lt h.nf)⟩
theorem Vs.below {w w' : World} {p k : Nat} {pv : Value} {V : Nat} {s : Nat → Nat} (h : Vs w p k pv V s) (g : Below w.heap.size w w') : Vs w' p k pv V s := h.step (Step.of_below g _)
theorem size_setCells (b : Nat) : ∀ (vs : List Value) (o : Nat) (w : World), (w.setCells b o vs).heap.size = w.heap.size
  | [], _, _ => rfl
  | v :: r, o, w => by rw [World.setCells, size_setCells b r]; simp [World.setCell]
theorem Vs.put {w : World} {p k : Nat} {pv : Value} {V : Nat} {s : Nat → Nat} (h : Vs w p k pv V s) (t : Nat → Nat) : Vs (w.setCells V 0 (sc t)) p k pv V t := by
  have hr := World.rangeAt_setCells_same w V 0 (sc t) (by rw [sc_length]; exact h.th)
  exact ⟨by rw [size_setCells]; exact h.lt, h.nf, hr, World.there_setCells h.th _ _ _⟩
theorem Ds.other {w : World} {p k : Nat} {pv : Value} {M : Dk} (h : Ds w p k pv M) {V : Nat} (hV : ¬ ft p k pv V) (o : Nat) (vs : List Value) : Ds (w.setCells V o vs) p k pv M :=
  h.of_blocks (heap_setCells_other _ _ _ _ _ (fun e => hV (.inl e.symm))) (heap_setCells_other _ _ _ _ _ (fun e => hV (.inr (.inl e.symm)))) (fun _ hg => heap_setCells_other _ _ _ _ _ (fun e => hV (.inr (.inr (e ▸ hg)))))
theorem Step.setNew {w : World} {F F' : Nat → Prop} {V : Nat} (hV : w.heap.size ≤ V) (vs : List Value) (o : Nat) {w' : World} (h : Step w w' F F') : Step w (w'.setCells V o vs) F F' := by
  have hb := below_setCells (B := w.heap.size) (w := w') V vs o (Below.refl _ w') hV
  exact ⟨hb.os.trans h.os, hb.tape.trans h.tape, hb.output.trans h.output, Nat.le_trans h.size hb.size, fun b hb' hn => (hb.block b hb').trans (h.block b hb' hn), h.foot⟩
end Go.Proofs.Ytlfggfoaelkapaa
