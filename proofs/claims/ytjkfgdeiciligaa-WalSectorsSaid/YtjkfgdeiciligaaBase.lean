/-
  The disk as plain data, what of memory holds it, and which memory a step may have turned. No condition.
-/
import Derived.Test.YtjkfgdeiciligaaProg
import Derived.WalkKit
import Derived.WalkLawsBesides
import Derived.BigQuiet
import Derived.Deep.QuietTactic
import Derived.Deep.MidRow
import Derived.Deep.OwnRows
import Derived.Deep.LoopGhost
import Derived.Deep.RegionLaw
import Derived.Laws.OwnMore
import Derived.Deep.AppendLies
import Derived.Lib.Hide
import Derived.Lib.MinMax
import Derived.Below
import Derived.KernelRfl
namespace Go.Proofs.Ytjkfgdeiciligaa
open Go.RowKit

theorem ret_bool {a b : Bool} (h : a = b) : Ending.returned (.bool a) = .returned (.bool b) := by rw [h]
theorem ret_int {k : IntKind} {a b : Int} (h : a = b) : Ending.returned (.int k a) = .returned (.int k b) := by rw [h]

/-- The cells of a sector's bytes. -/
def sc (s : Nat → Nat) : List Value := (List.range 64).map fun j => .int .u8 (s j : Int)
/-- A sector, as a value. -/
def sv (s : Nat → Nat) : Value := .agg (sc s).toArray
/-- The cells of a write that waits. -/
def wc (x : Nat × (Nat → Nat)) : List Value := .int .i64 (x.1 : Int) :: sc x.2
def zer : Nat → Nat := fun _ => 0
/-- The sector whose bytes rise from c on. -/
def sec (c : Nat) : Nat → Nat := fun j => (c + j) % 256
/-- A block of 64 zeros. -/
def Z64 : Obj := .cells (sc zer).toArray 52

theorem sc_length (s : Nat → Nat) : (sc s).length = 64 := by simp [sc]
theorem wc_length (x : Nat × (Nat → Nat)) : (wc x).length = 65 := by simp [wc, sc_length]
theorem sc_get {s : Nat → Nat} {j : Nat} (h : j < 64) : (sc s)[j]? = some (.int .u8 (s j : Int)) := by simp [sc, h]
theorem sc_one (s : Nat → Nat) : ∀ v ∈ sc s, v.oneCell' = true := by
  intro v hv
  obtain ⟨j, _, rfl⟩ := List.mem_map.1 hv
  rfl
theorem wc_one (x : Nat × (Nat → Nat)) : ∀ v ∈ wc x, v.oneCell' = true := by
  intro v hv
  rcases List.mem_cons.1 hv with rfl | hv
  · rfl
  · exact sc_one _ v hv
theorem sc_congr {a b : Nat → Nat} (h : ∀ j, j < 64 → a j = b j) : sc a = sc b := by
  unfold sc
  refine List.map_congr_left fun j hj => ?_
  rw [h j (List.mem_range.1 hj)]
theorem sv_congr {a b : Nat → Nat} (h : ∀ j, j < 64 → a j = b j) : sv a = sv b := by rw [sv, sv, sc_congr h]

theorem flat_length (l : List (Nat × (Nat → Nat))) : (l.flatMap wc).length = l.length * 65 := by
  induction l with
  | nil => rfl
  | cons x l ih => rw [List.flatMap_cons, List.length_append, ih, wc_length, List.length_cons]; omega
theorem flat_get : ∀ (l : List (Nat × (Nat → Nat))) (i j : Nat) (x : Nat × (Nat → Nat)), l[i]? = some x → j < 65 → (l.flatMap wc)[i * 65 + j]? = (wc x)[j]?
  | [], i, j, x, h, _ => by simp at h
  | y :: l, 0, j, x, h, hj => by
    obtain rfl : y = x := by simpa using h
    rw [List.flatMap_cons, Nat.zero_mul, Nat.zero_add, List.getElem?_append_left (by rw [wc_length]; omega)]
  | y :: l, i + 1, j, x, h, hj => by
    rw [List.flatMap_cons, List.getElem?_append_right (by rw [wc_length]; omega), wc_length, show (i + 1) * 65 + j - 65 = i * 65 + j by omega]
    exact flat_get l i j x (by simpa using h) hj

/-- The disk, as plain data. -/
structure Dk where
  n : Nat
  kept : Nat → Nat → Nat
  pend : List (Nat × (Nat → Nat))
  calls : Nat
  stop : Option Nat
  fail : Option Nat
  down : Bool

/-- The blocks of a disk. -/
def ft (p k : Nat) (pv : Value) : Nat → Prop := fun b => b = p ∨ b = k ∨ pv.ownBlock = some b

/-- Only blocks of F, of those that were there, may have turned; F' has none besides but new ones. -/
structure Step (w w' : World) (F F' : Nat → Prop) : Prop where
  os : w'.os = w.os
  tape : w'.tape = w.tape
  output : w'.output = w.output
  size : w.heap.size ≤ w'.heap.size
  block : ∀ b, b < w.heap.size → ¬ F b → w'.heap[b]? = w.heap[b]?
  foot : ∀ b, F' b → F b ∨ w.heap.size ≤ b

namespace Step
variable {w w' w'' : World} {F F' F'' : Nat → Prop}
theorem refl (w : World) (F : Nat → Prop) : Step w w F F := ⟨rfl, rfl, rfl, Nat.le_refl _, fun _ _ _ => rfl, fun _ h => .inl h⟩
theorem trans (h : Step w w' F F') (g : Step w' w'' F' F'') : Step w w'' F F'' :=
  ⟨g.os.trans h.os, g.tape.trans h.tape, g.output.trans h.output, Nat.le_trans h.size g.size,
   fun b hb hn => (g.block b (Nat.lt_of_lt_of_le hb h.size) (fun hf => (h.foot b hf).elim hn (fun e => by omega))).trans (h.block b hb hn),
   fun b hb => (g.foot b hb).elim (h.foot b) (fun e => .inr (Nat.le_trans h.size e))⟩
theorem alloc (h : Step w w' F F') (o : Obj) : Step w (w'.alloc o) F F' :=
  h.trans ⟨rfl, rfl, rfl, by simp, fun b hb _ => Below.heap_alloc _ _ _ hb, fun _ h => .inl h⟩
theorem setCell (h : Step w w' F F') {a : Addr} (ha : F' a.block) (v : Value) : Step w (w'.setCell a v) F F' :=
  h.trans ⟨rfl, rfl, rfl, by simp [World.setCell], fun b _ hn => Below.heap_setCell _ _ _ _ (fun e => hn (e ▸ ha)), fun _ h => .inl h⟩
theorem drew (h : Step w w' F F') : Step w w'.drew F F' := ⟨h.os, h.tape, h.output, h.size, h.block, h.foot⟩
theorem setCells (b : Nat) : ∀ (vs : List Value) (o : Nat) {w' : World}, Step w w' F F' → F' b → Step w (w'.setCells b o vs) F F'
  | [], _, _, h, _ => h
  | v :: r, o, w', h, hb => by
    rw [World.setCells]
    exact setCells b r (o + 1) (h.setCell (a := ⟨b, o, none⟩) hb v) hb
theorem foots (h : Step w w' F F') (hs : ∀ b, F'' b → F b ∨ w.heap.size ≤ b) : Step w w' F F'' := ⟨h.os, h.tape, h.output, h.size, h.block, hs⟩
theorem below {B : Nat} (h : Step w w' F F') (hB : B ≤ w.heap.size) (hF : ∀ b, F b → B ≤ b) : Below B w w' :=
  ⟨h.os, h.tape, h.output, h.size, fun b hb => h.block b (by omega) (fun hf => by have := hF b hf; omega)⟩
theorem of_below (h : Below w.heap.size w w') (F : Nat → Prop) : Step w w' F F := ⟨h.os, h.tape, h.output, h.size, fun b hb _ => h.block b hb, fun _ h => .inl h⟩
theorem ge {B : Nat} (h : Step w w' F F') (hB : B ≤ w.heap.size) (hF : ∀ b, F b → B ≤ b) : ∀ b, F' b → B ≤ b := fun b hb => (h.foot b hb).elim (hF b) (fun e => by omega)
end Step

theorem heap_setCells_other (b : Nat) : ∀ (vs : List Value) (o : Nat) (w : World) (x : Nat), x ≠ b → (w.setCells b o vs).heap[x]? = w.heap[x]?
  | [], _, _, _, _ => rfl
  | v :: r, o, w, x, h => by rw [World.setCells, heap_setCells_other b r (o + 1) _ x h, Below.heap_setCell _ _ _ _ h]

/-- Many cells of a row written at once. -/
theorem rowIs_setCells {b : Nat} {t : TypeId} {n : Nat} : ∀ (vs : List Value) (o : Nat) {w : World} {f : Nat → Value}, w.rowIs b t n f → (w.setCells b o vs).rowIs b t n (fun j => if o ≤ j then (vs[j - o]?).getD (f j) else f j)
  | [], o, w, f, h => h.congr (fun j _ => by simp)
  | v :: r, o, w, f, h => by
    rw [World.setCells]
    refine (rowIs_setCells r (o + 1) (h.set o v)).congr fun j _ => ?_
    by_cases h1 : o + 1 ≤ j
    · simp only [if_pos h1, if_pos (show o ≤ j by omega), if_neg (show ¬ j = o by omega)]
      rw [show j - o = (j - (o + 1)) + 1 by omega, List.getElem?_cons_succ]
    · rw [if_neg h1]
      by_cases h2 : j = o
      · subst h2; simp
      · rw [if_neg h2, if_neg (by omega)]

/-- What of memory holds the disk. -/
structure Ds (w : World) (p k : Nat) (pv : Value) (M : Dk) : Prop where
  blk : w.heap[p]? = some (.cells #[.slice (some ⟨k, 0, none⟩) M.n M.n, pv, .int .i64 (M.calls : Int), .bool M.stop.isSome, .int .i64 ((M.stop.getD 0 : Nat) : Int), .bool M.fail.isSome, .int .i64 ((M.fail.getD 0 : Nat) : Int), .bool M.down] 63 (0, 0))
  row : w.rowIs k 52 (M.n * 64) (fun j => .int .u8 (M.kept (j / 64) (j % 64) : Int))
  own : w.ownsRow 0 73 65 pv M.pend.length (M.pend.flatMap wc)
  pk : p ≠ k
  gp : pv.ownBlock ≠ some p
  gk : pv.ownBlock ≠ some k
  n : M.n ≤ 512
  ats : ∀ x ∈ M.pend, x.1 < M.n
  few : M.calls < 1000000
  len : M.pend.length ≤ M.calls
  sb : M.stop.getD 0 < 9223372036854775808
  fb : M.fail.getD 0 < 9223372036854775808

theorem ownsRow_of_block {w w' : World} {base : Nat} {e : TypeId} {size : Nat} {v : Value} {n : Nat} {xs : List Value} (h : w.ownsRow base e size v n xs) (hb : ∀ g, v.ownBlock = some g → w'.heap[g]? = w.heap[g]?) : w'.ownsRow base e size v n xs := by
  obtain ⟨h1, h2⟩ := h
  refine ⟨h1, ?_⟩
  rcases h2 with h2 | ⟨g, cap, cur, rfl, hg, hh, r⟩
  · exact .inl h2
  · exact .inr ⟨g, cap, cur, rfl, hg, by rw [hb g rfl]; exact hh, r⟩

namespace Ds
variable {w w' : World} {p k : Nat} {pv : Value} {M : Dk}
theorem cell (h : Ds w p k pv M) (i : Nat) : w.cell? ⟨p, i, none⟩ = #[.slice (some ⟨k, 0, none⟩) M.n M.n, pv, .int .i64 (M.calls : Int), .bool M.stop.isSome, .int .i64 ((M.stop.getD 0 : Nat) : Int), .bool M.fail.isSome, .int .i64 ((M.fail.getD 0 : Nat) : Int), .bool M.down][i]? := by
  simp [World.cell?, h.blk]
theorem frozen (h : Ds w p k pv M) (i : Nat) : w.frozen? ⟨p, i, none⟩ = false := by simp [World.frozen?, h.blk]
theorem of_blocks (h : Ds w p k pv M) (hp : w'.heap[p]? = w.heap[p]?) (hk : w'.heap[k]? = w.heap[k]?) (hg : ∀ g, pv.ownBlock = some g → w'.heap[g]? = w.heap[g]?) : Ds w' p k pv M :=
  ⟨hp.trans h.blk, h.row.of_block hk, ownsRow_of_block h.own hg, h.pk, h.gp, h.gk, h.n, h.ats, h.few, h.len, h.sb, h.fb⟩
theorem plt (h : Ds w p k pv M) : p < w.heap.size := by
  obtain ⟨hlt, _⟩ := Array.getElem?_eq_some_iff.1 h.blk
  exact hlt
theorem klt (h : Ds w p k pv M) : k < w.heap.size := h.row.lt
theorem glt (h : Ds w p k pv M) {g : Nat} (hg : pv.ownBlock = some g) : g < w.heap.size := by
  rcases h.own.2 with ⟨rfl, _⟩ | ⟨g', cap, cur, rfl, _, hh, _⟩
  · cases hg
  · obtain rfl : g' = g := by simpa [Value.ownBlock] using hg
    obtain ⟨hlt, _⟩ := Array.getElem?_eq_some_iff.1 hh
    exact hlt
theorem below (h : Ds w p k pv M) (hb : Below w.heap.size w w') : Ds w' p k pv M :=
  h.of_blocks (hb.block _ h.plt) (hb.block _ h.klt) (fun _ hg => hb.block _ (h.glt hg))
theorem alloc (h : Ds w p k pv M) (o : Obj) : Ds (w.alloc o) p k pv M := h.below ((Below.refl _ w).alloc (Nat.le_refl _) o)
theorem drew (h : Ds w p k pv M) : Ds w.drew p k pv M := h.below (Below.refl _ w).drew
theorem setOther (h : Ds w p k pv M) {a : Addr} (ha : ¬ ft p k pv a.block) (v : Value) : Ds (w.setCell a v) p k pv M :=
  h.of_blocks (Below.heap_setCell _ _ _ _ (fun e => ha (.inl e.symm))) (Below.heap_setCell _ _ _ _ (fun e => ha (.inr (.inl e.symm)))) (fun _ hg => Below.heap_setCell _ _ _ _ (fun e => ha (.inr (.inr (e ▸ hg)))))
theorem fp : ft p k pv p := .inl rfl
theorem fk : ft p k pv k := .inr (.inl rfl)
theorem lt (h : Ds w p k pv M) : ∀ b, ft p k pv b → b < w.heap.size := by
  rintro b (rfl | rfl | hb)
  · exact h.plt
  · exact h.klt
  · exact h.glt hb
/-- A sector that is kept, as it lies there. -/
theorem keptAt (h : Ds w p k pv M) {i : Nat} (hi : i < M.n) : w.rangeAt k (i * 64) (sc (M.kept i)) := by
  intro j v hv
  have hj : j < 64 := by have := (List.getElem?_eq_some_iff.1 hv).1; rwa [sc_length] at this
  rw [sc_get hj] at hv
  rw [h.row.cell (i := i * 64 + j) (by have : (i + 1) * 64 ≤ M.n * 64 := Nat.mul_le_mul_right _ hi; omega), ← hv, show (i * 64 + j) / 64 = i by omega, show (i * 64 + j) % 64 = j by omega]
/-- A write that waits, as it lies there. -/
theorem form (h : Ds w p k pv M) {i : Nat} {x : Nat × (Nat → Nat)} (hx : M.pend[i]? = some x) : ∃ g cap, pv = .slice (some ⟨g, 0, none⟩) M.pend.length cap ∧ M.pend.length ≤ cap ∧ w.rangeAt g (i * 65) (wc x) := by
  have hi : i < M.pend.length := (List.getElem?_eq_some_iff.1 hx).1
  rcases h.own.2 with ⟨_, h0⟩ | ⟨g, cap, cur, hv, _, hh, hc, _, hs, ht⟩
  · omega
  · refine ⟨g, cap, hv, hc, fun j v hj => ?_⟩
    have hj65 : j < 65 := by have := (List.getElem?_eq_some_iff.1 hj).1; rwa [wc_length] at this
    have hlt : i * 65 + j < M.pend.length * 65 := by have : (i + 1) * 65 ≤ M.pend.length * 65 := Nat.mul_le_mul_right _ hi; omega
    rw [cell_of_row w g (i * 65 + j) cur 73 (0, 0) hh, ← Array.getElem?_toList]
    have := flat_get M.pend i j x hx hj65
    rw [← ht, List.getElem?_take, if_pos hlt, hj] at this
    exact this
end Ds

theorem size38 : (Try.prog.info? 52).map (·.size) = some 64 := by kernel_rfl
theorem size61 : (Try.prog.info? 73).map (·.size) = some 65 := by kernel_rfl
theorem run_alloc38 (x : Value) (hx : x = .tuple #[]) (w : World) : (Instr.alloc 52 true x).run Try.prog w = .ok (.pointer (some ⟨w.heap.size, 0, none⟩)) (w.alloc Z64) := by
  subst hx
  have e : Z64 = .cells (Array.replicate 64 (.int .u8 0)) 52 := by
    unfold Z64 sc zer
    congr 1
  rw [e]
  simp [go_sem, Instr.alloc]
  rfl
end Go.Proofs.Ytjkfgdeiciligaa
