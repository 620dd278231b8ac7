/-
  A trie of the call's own beside a row of prefixes of its own, and the deeds that came in. No condition.
-/
import Derived.Test.YtbfkpapankgndaaActs
import Derived.Test.YtbfkpapankgndaaEq32
import Derived.Lib.MinMax
namespace Go.Proofs.Ytbfkpapankgndaa
open Go.RowKit

theorem ownsRow_of_block {w w' : World} {base : Nat} {e : TypeId} {size : Nat} {v : Value} {n : Nat} {xs : List Value} (h : w.ownsRow base e size v n xs) (hb : ∀ g, v.ownBlock = some g → w'.heap[g]? = w.heap[g]?) : w'.ownsRow base e size v n xs := by
  obtain ⟨h1, h2⟩ := h
  refine ⟨h1, ?_⟩
  rcases h2 with h2 | ⟨g, cap, cur, rfl, hg, hh, r⟩
  · exact .inl h2
  · exact .inr ⟨g, cap, cur, rfl, hg, by rw [hb g rfl]; exact hh, r⟩
theorem own_ge {w : World} {base : Nat} {e : TypeId} {size : Nat} {v : Value} {n : Nat} {xs : List Value} (h : w.ownsRow base e size v n xs) {g : Nat} (hg : v.ownBlock = some g) : base ≤ g ∧ g < w.heap.size := by
  rcases h.2 with ⟨rfl, _⟩ | ⟨g', cap, cur, rfl, hb, hh, _⟩
  · cases hg
  · obtain rfl : g' = g := by simpa [Value.ownBlock] using hg
    exact ⟨hb, (Array.getElem?_eq_some_iff.1 hh).1⟩

structure Lp (B : Nat) (w W : World) (p : Nat) (T : Tr) (ys : List (Int × Int)) (v : Value) : Prop where
  tb : Tb B w W p T
  own : W.ownsRow B 32 2 v ys.length (pf ys)
  sep : ∀ g, v.ownBlock = some g → ¬ fp p T g
namespace Lp
variable {B : Nat} {w W W' : World} {p : Nat} {T : Tr} {ys : List (Int × Int)} {v : Value}
theorem below (h : Lp B w W p T ys v) (hb : Below W.heap.size W W') : Lp B w W' p T ys v :=
  ⟨h.tb.below hb, ownsRow_of_block h.own fun g hg => hb.block g (own_ge h.own hg).2, h.sep⟩
theorem step {T' : Tr} (h : Lp B w W p T ys v) (ht : Td W' p T') (hs : Step W W' (fp p T) (fp p T')) : Lp B w W' p T' ys v :=
  ⟨h.tb.step ht hs, ownsRow_of_block h.own fun g hg => hs.block g (own_ge h.own hg).2 (h.sep g hg), fun g hg hf => (hs.foot g hf).elim (h.sep g hg) (fun e => by have := (own_ge h.own hg).2; omega)⟩
theorem put {x b : Int} (h : Lp B w W p T ys v) (hr : PutR W W' p x b T) : ∃ T', Lp B w W' p T' ys v ∧ (ent 32 0 T').Perm (if putC T x b = 0 then (x, b) :: ent 32 0 T else ent 32 0 T) := by
  obtain ⟨T', ht, hs, hp⟩ := hr
  exact ⟨T', h.step ht hs, hp⟩
theorem take {x b : Int} (h : Lp B w W p T ys v) (hr : TakeR W W' p x b T) : ∃ T', Lp B w W' p T' ys v ∧ (ent 32 0 T).Perm (if takeC T x b = 0 then (x, b) :: ent 32 0 T' else ent 32 0 T') := by
  obtain ⟨T', ht, hs, hp⟩ := hr
  exact ⟨T', h.step ht hs, hp⟩
theorem app {tmp : Obj} {w1 : World} {g cap : Nat} {zs : List (Int × Int)} {k : Nat} (h : Lp B w W p T ys v) (hk : k = zs.length) (hown' : w1.ownsRow B 32 2 (.slice (some ⟨g, 0, none⟩) k cap) k (pf zs)) (hg : (W.alloc tmp).grownBy w1 v.ownBlock) (h4 : v.ownBlock = some g ∨ g = (W.alloc tmp).heap.size) :
    Lp B w w1 p T zs (.slice (some ⟨g, 0, none⟩) k cap) := by
  subst hk
  have hlt := h.tb.td.lt
  refine ⟨⟨h.tb.td.keep fun c hc => ?_, ?_, h.tb.own, h.tb.hB⟩, hown', fun g' hg' hf => ?_⟩
  · rw [hg.block c (by have := hlt c hc; simp; omega) (fun e => h.sep c e.symm hc), Below.heap_alloc _ _ _ (hlt c hc)]
  · have hb := Nat.le_trans h.tb.hB h.tb.bel.size
    exact (h.tb.bel.alloc hb tmp).grown hg (by simp; omega) (fun k e => (own_ge h.own e).1)
  · obtain rfl : g = g' := by simpa [Value.ownBlock] using hg'
    rcases h4 with h4 | h4
    · exact h.sep g h4 hf
    · have := hlt g hf; simp at h4; omega
end Lp
theorem lp_new (w : World) : Lp w.heap.size w (w.alloc (.cells #[.pointer none, .int .i64 0] 27)) w.heap.size .e [] (.slice none 0 0) :=
  ⟨tb_new w, World.ownsRow_nil _ _ _ _, fun g hg => by cases hg⟩
end Go.Proofs.Ytbfkpapankgndaa
