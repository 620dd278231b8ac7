/-
  Two tries of the call's own, side by side; who is in a trie behind a Put. No condition.
-/
import Derived.Test.YtbfkpapankgndaaLp
namespace Go.Proofs.Ytbfkpapankgndaa
open Go.RowKit

structure Dp (B : Nat) (w W : World) (p : Nat) (S : Tr) (r : Nat) (T : Tr) : Prop where
  tx : Td W p S
  ty : Td W r T
  bel : Below B w W
  ox : ∀ c, fp p S c → B ≤ c
  oy : ∀ c, fp r T c → B ≤ c
  dis : ∀ c, fp p S c → ¬ fp r T c
  hB : B ≤ w.heap.size
namespace Dp
variable {B : Nat} {w W W' : World} {p r : Nat} {S T : Tr}
theorem below (h : Dp B w W p S r T) (hb : Below W.heap.size W W') : Dp B w W' p S r T :=
  ⟨h.tx.below hb, h.ty.below hb, h.bel.trans (hb.mono (Nat.le_trans h.hB h.bel.size)), h.ox, h.oy, h.dis, h.hB⟩
theorem putx {x b : Int} (h : Dp B w W p S r T) (hr : PutR W W' p x b S) : ∃ S', Dp B w W' p S' r T ∧ (ent 32 0 S').Perm (if putC S x b = 0 then (x, b) :: ent 32 0 S else ent 32 0 S) := by
  obtain ⟨S', ht, hs, hp⟩ := hr
  exact ⟨S', ⟨ht, h.ty.step hs fun c hc hx => h.dis c hx hc, h.bel.trans (hs.below (Nat.le_trans h.hB h.bel.size) h.ox), fun c hc => (hs.foot c hc).elim (h.ox c) (fun e => Nat.le_trans (Nat.le_trans h.hB h.bel.size) e), h.oy,
    fun c hc hy => (hs.foot c hc).elim (fun hx => h.dis c hx hy) (fun e => by have := h.ty.lt c hy; omega), h.hB⟩, hp⟩
theorem puty {x b : Int} (h : Dp B w W p S r T) (hr : PutR W W' r x b T) : ∃ T', Dp B w W' p S r T' ∧ (ent 32 0 T').Perm (if putC T x b = 0 then (x, b) :: ent 32 0 T else ent 32 0 T) := by
  obtain ⟨T', ht, hs, hp⟩ := hr
  exact ⟨T', ⟨h.tx.step hs fun c hc hx => h.dis c hc hx, ht, h.bel.trans (hs.below (Nat.le_trans h.hB h.bel.size) h.oy), h.ox, fun c hc => (hs.foot c hc).elim (h.oy c) (fun e => Nat.le_trans (Nat.le_trans h.hB h.bel.size) e),
    fun c hc hy => (hs.foot c hy).elim (fun hx => h.dis c hc hx) (fun e => by have := h.tx.lt c hc; omega), h.hB⟩, hp⟩
end Dp
theorem dp_new (w : World) : Dp w.heap.size w ((w.alloc (.cells #[.pointer none, .int .i64 0] 27)).alloc (.cells #[.pointer none, .int .i64 0] 27)) w.heap.size .e (w.heap.size + 1) .e := by
  have h1 := td_new w
  have h2 := td_new (w.alloc (.cells #[.pointer none, .int .i64 0] 27))
  rw [World.size_alloc] at h2
  refine ⟨h1.below ((Below.refl _ _).alloc (Nat.le_refl _) _), h2, (((Below.refl _ w).alloc (Nat.le_refl _) _).alloc (by simp) _), ?_, ?_, ?_, Nat.le_refl _⟩
  · rintro c (rfl | hc)
    · exact Nat.le_refl _
    · simp [Tr.blocks] at hc
  · rintro c (rfl | hc)
    · omega
    · simp [Tr.blocks] at hc
  · rintro c (rfl | hc) (h | h)
    · omega
    · simp [Tr.blocks] at h
    · simp [Tr.blocks] at hc
    · simp [Tr.blocks] at hc
theorem put_mem {T T' : Tr} {x b : Int} (hp : (ent 32 0 T').Perm (if putC T x b = 0 then (x, b) :: ent 32 0 T else ent 32 0 T)) (y : Int × Int) : y ∈ ent 32 0 T' ↔ y ∈ ent 32 0 T ∨ (y = (x, b) ∧ okB x b = true) := by
  rw [hp.mem_iff]
  cases hok : okB x b
  · rw [if_neg (by simp [putC, hok])]
    simp
  · cases hin : isIn T x b
    · rw [if_pos (by simp [putC, hok, hin]), List.mem_cons]
      simp only [and_true]
      exact Or.comm
    · rw [if_neg (by simp [putC, hok, hin])]
      have hm : (x, b) ∈ ent 32 0 T := by simpa [isIn] using hin
      constructor
      · exact .inl
      · rintro (h | ⟨rfl, _⟩)
        · exact h
        · exact hm
theorem put_len {T T' : Tr} {x b : Int} (hp : (ent 32 0 T').Perm (if putC T x b = 0 then (x, b) :: ent 32 0 T else ent 32 0 T)) : (ent 32 0 T').length ≤ (ent 32 0 T).length + 1 := by
  rw [hp.length_eq]
  split <;> simp
/-- The prefixes that some deeds mean, those that are none left out. -/
def Mem (T : Tr) (us : List Ac) : Prop := ∀ y, y ∈ ent 32 0 T ↔ okB y.1 y.2 = true ∧ y ∈ us.map bk
theorem mem_nil : Mem .e [] := fun y => by rw [ent_e]; simp
theorem Mem.put {T T' : Tr} {us bs : List Ac} {a : Ac} (h : Mem T us) (hp : (ent 32 0 T').Perm (if putC T (bk a).1 (bk a).2 = 0 then ((bk a).1, (bk a).2) :: ent 32 0 T else ent 32 0 T)) (hb : ∀ z, z ∈ bs ↔ z = a ∨ z ∈ us) : Mem T' bs := by
  intro y
  rw [put_mem hp y, h y]
  have e : ((bk a).1, (bk a).2) = bk a := rfl
  rw [e]
  simp only [List.mem_map]
  constructor
  · rintro (⟨h1, z, hz, rfl⟩ | ⟨rfl, h1⟩)
    · exact ⟨h1, z, (hb z).2 (.inr hz), rfl⟩
    · exact ⟨h1, a, (hb a).2 (.inl rfl), rfl⟩
  · rintro ⟨h1, z, hz, rfl⟩
    rcases (hb z).1 hz with rfl | hz
    · exact .inr ⟨rfl, h1⟩
    · exact .inl ⟨h1, z, hz, rfl⟩
theorem Mem.eq {S T : Tr} {us bs : List Ac} (h : Mem S us) (k : Mem T bs) (hb : ∀ z, z ∈ us ↔ z ∈ bs) : ent 32 0 S = ent 32 0 T := by
  refine sorted_eq (ent_pairwise S) (ent_pairwise T) fun y => ?_
  rw [h y, k y]
  simp only [List.mem_map, hb]
end Go.Proofs.Ytbfkpapankgndaa
