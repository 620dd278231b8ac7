/-
  What a round of a loop over an iterator keeps: whatever cells are not the loop's own variables; what the iterator over a trie's prefixes reads. No condition.
-/
import Derived.Test.YtbfkpapankgndaaTake
import Derived.RangeFuncNested
import Derived.RangeFuncBound
import Derived.RangeFuncCalls
import Derived.RangeFuncLeaves
namespace Go.Proofs.Ytbfkpapankgndaa
open Go.RowKit

/-- The blocks of the loop's own variables: two boxes, and the row that the first one holds. -/
def Vx (b1 b2 : Nat) (W : World) (c : Nat) : Prop := c = b1 ∨ c = b2 ∨ ∃ v, W.cell? ⟨b1, 0, none⟩ = some v ∧ v.ownBlock = some c
/-- Whatever cells are not the loop's own lie as they lay. -/
structure Kv (b1 b2 : Nat) (A B : World) : Prop where
  size : A.heap.size ≤ B.heap.size
  same : ∀ c o, A.heap[c]? = some o → o.isCells = true → ¬ Vx b1 b2 A c → B.heap[c]? = some o
  foot : ∀ c, Vx b1 b2 B c → Vx b1 b2 A c ∨ A.heap.size ≤ c
  room : (∀ c, Vx b1 b2 A c → c < A.heap.size) → ∀ c, Vx b1 b2 B c → c < B.heap.size
theorem Kv.refl (b1 b2 : Nat) (A : World) : Kv b1 b2 A A := ⟨Nat.le_refl _, fun _ _ h _ _ => h, fun _ h => .inl h, fun h => h⟩
theorem Kv.trans {b1 b2 : Nat} {A B C : World} (h : Kv b1 b2 A B) (k : Kv b1 b2 B C) : Kv b1 b2 A C := by
  refine ⟨Nat.le_trans h.size k.size, fun c o hc ho hn => ?_, fun c hc => ?_, fun hr => k.room (h.room hr)⟩
  · refine k.same c o (h.same c o hc ho hn) ho fun hv => ?_
    rcases h.foot c hv with hv | hv
    · exact hn hv
    · have := (Array.getElem?_eq_some_iff.1 hc).1; omega
  · rcases k.foot c hc with hc | hc
    · exact h.foot c hc
    · exact .inr (Nat.le_trans h.size hc)
theorem vx_below {b1 b2 : Nat} {A B : World} (h : Below A.heap.size A B) (hb : b1 < A.heap.size) (c : Nat) : Vx b1 b2 B c ↔ Vx b1 b2 A c := by
  unfold Vx
  rw [h.cell (p := ⟨b1, 0, none⟩) hb]
theorem Kv.of_below {b1 b2 : Nat} {A B : World} (h : Below A.heap.size A B) (hb : b1 < A.heap.size) : Kv b1 b2 A B :=
  ⟨h.size, fun c _ hc _ _ => (h.block c (Array.getElem?_eq_some_iff.1 hc).1).trans hc, fun c hc => .inl ((vx_below h hb c).1 hc), fun hr c hc => Nat.lt_of_lt_of_le (hr c ((vx_below h hb c).1 hc)) h.size⟩
theorem kv_t {b1 b2 : Nat} {A B C : World} (h : Kv b1 b2 A B) (k : Kv b1 b2 B C) : Kv b1 b2 A C := h.trans k
theorem kv_b {b1 b2 : Nat} {w : World} (hb : b1 < w.heap.size) (W : World) (l : Nat) (o o' : Obj) (hl : w.heap.size ≤ l) (h : W.heap[l]? = some o) (hc : o.isCells = false) (_ : o.isWalk = false) : Kv b1 b2 W (W.putObj l o') := by
  have hl1 : l < W.heap.size := (Array.getElem?_eq_some_iff.1 h).1
  have hcell : (W.putObj l o').cell? ⟨b1, 0, none⟩ = W.cell? ⟨b1, 0, none⟩ := World.cell?_of_block (World.putObj_heap_other (by show b1 ≠ l; omega))
  have hv : ∀ c, Vx b1 b2 (W.putObj l o') c ↔ Vx b1 b2 W c := fun c => by unfold Vx; rw [hcell]
  have hs : (W.putObj l o').heap.size = W.heap.size := by simp
  refine ⟨by rw [hs]; exact Nat.le_refl _, fun c oc hcc ho hn => ?_, fun c hc => .inl ((hv c).1 hc), fun hr c hc => by rw [hs]; exact hr c ((hv c).1 hc)⟩
  rw [World.putObj_heap_other (fun e => by subst e; rw [h] at hcc; cases hcc; rw [hc] at ho; cases ho)]
  exact hcc

/-- What the iterator reads. -/
structure Wi (l b1 b2 : Nat) (x b : Int) (Bb Y V : Nat) (W : World) (U : Tr) : Prop where
  bb : W.heap[Bb]? = some (.cells #[.int .u32 x, .int .i64 b] 32 (0, 0))
  yy : W.heap[Y]? = some (.cells #[.func (.yield l) #[] #[]] 36 (0, 0))
  vv : W.heap[V]? = some (.cells #[.func (.func 34) #[] #[.pointer (some ⟨Bb, 0, none⟩), .pointer (some ⟨Y, 0, none⟩), .pointer (some ⟨V, 0, none⟩)]] 67 (0, 0))
  hd : Hd W U
  fb : ¬ Vx b1 b2 W Bb
  fy : ¬ Vx b1 b2 W Y
  fv : ¬ Vx b1 b2 W V
  fu : ∀ c ∈ U.blocks, ¬ Vx b1 b2 W c
  vb : ∀ c, Vx b1 b2 W c → c < W.heap.size
namespace Wi
variable {l b1 b2 : Nat} {x b : Int} {Bb Y V : Nat} {W W' : World} {U : Tr}
theorem b1lt (h : Wi l b1 b2 x b Bb Y V W U) : b1 < W.heap.size := h.vb b1 (.inl rfl)
theorem kv (h : Wi l b1 b2 x b Bb Y V W U) (k : Kv b1 b2 W W') : Wi l b1 b2 x b Bb Y V W' U := by
  have nf : ∀ {c : Nat}, c < W.heap.size → ¬ Vx b1 b2 W c → ¬ Vx b1 b2 W' c := fun hc hn hv => (k.foot _ hv).elim hn (fun e => by omega)
  have lt : ∀ {c : Nat} {o : Obj}, W.heap[c]? = some o → c < W.heap.size := fun h => (Array.getElem?_eq_some_iff.1 h).1
  refine ⟨k.same _ _ h.bb rfl h.fb, k.same _ _ h.yy rfl h.fy, k.same _ _ h.vv rfl h.fv, ?_, nf (lt h.bb) h.fb, nf (lt h.yy) h.fy, nf (lt h.vv) h.fv, fun c hc => nf (h.hd.lt c hc) (h.fu c hc), k.room h.vb⟩
  have : ∀ {T : Tr}, Hd W T → (∀ c ∈ T.blocks, ¬ Vx b1 b2 W c) → Hd W' T := by
    intro T
    induction T with
    | e => intro _ _; trivial
    | nd bn kk tl tr il ir =>
      intro hh hn
      exact ⟨k.same _ _ hh.1 rfl (hn bn (by simp [Tr.blocks])), il hh.2.1 (fun c hc => hn c (by simp [Tr.blocks, hc])), ir hh.2.2 (fun c hc => hn c (by simp [Tr.blocks, hc]))⟩
  exact this h.hd h.fu
theorem below (h : Wi l b1 b2 x b Bb Y V W U) (hb : Below W.heap.size W W') : Wi l b1 b2 x b Bb Y V W' U := h.kv (.of_below hb h.b1lt)
theorem left {bn : Nat} {k : Bool} {tl tr : Tr} (h : Wi l b1 b2 x b Bb Y V W (.nd bn k tl tr)) : Wi l b1 b2 x b Bb Y V W tl :=
  ⟨h.bb, h.yy, h.vv, h.hd.2.1, h.fb, h.fy, h.fv, fun c hc => h.fu c (by simp [Tr.blocks, hc]), h.vb⟩
theorem right {bn : Nat} {k : Bool} {tl tr : Tr} (h : Wi l b1 b2 x b Bb Y V W (.nd bn k tl tr)) : Wi l b1 b2 x b Bb Y V W tr :=
  ⟨h.bb, h.yy, h.vv, h.hd.2.2, h.fb, h.fy, h.fv, fun c hc => h.fu c (by simp [Tr.blocks, hc]), h.vb⟩
theorem cells (h : Wi l b1 b2 x b Bb Y V W U) : W.cell? ⟨Bb, 0, none⟩ = some (.int .u32 x) ∧ W.cell? ⟨Bb, 1, none⟩ = some (.int .i64 b) ∧ W.cell? ⟨Y, 0, none⟩ = some (.func (.yield l) #[] #[]) ∧
    W.cell? ⟨V, 0, none⟩ = some (.func (.func 34) #[] #[.pointer (some ⟨Bb, 0, none⟩), .pointer (some ⟨Y, 0, none⟩), .pointer (some ⟨V, 0, none⟩)]) :=
  ⟨by simp [World.cell?, h.bb], by simp [World.cell?, h.bb], by simp [World.cell?, h.yy], by simp [World.cell?, h.vv]⟩
/-- A block that is new is none of the loop's, and lies on. -/
theorem own (h : Wi l b1 b2 x b Bb Y V W U) {A : World} {c : Nat} {o : Obj} (hA : Below W.heap.size W A) (hc : W.heap.size ≤ c) (ho : A.heap[c]? = some o) (hi : o.isCells = true) (k : Kv b1 b2 A W') : W'.heap[c]? = some o :=
  k.same c o ho hi fun hv => by have := h.vb c ((vx_below hA h.b1lt c).1 hv); omega
end Wi
end Go.Proofs.Ytbfkpapankgndaa
