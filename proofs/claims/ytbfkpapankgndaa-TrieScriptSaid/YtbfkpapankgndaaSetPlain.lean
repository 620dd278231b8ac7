/-
  What becomes of a trie's nodes in memory where one child is another, where the node is kept or not, where it goes, or is new. No condition.
-/
import Derived.Test.YtbfkpapankgndaaHas
import Derived.Laws.Rows
import Derived.RangeFuncRecord
namespace Go.Proofs.Ytbfkpapankgndaa
open Go.RowKit

/-- What a change leaves. -/
structure Ch (w w' : World) (n : Nat) (a x b : Int) (kv : Bool) (T T' : Tr) : Prop where
  hd : Hd w' T'
  wf : Wf n T'
  nd : T'.blocks.Nodup
  step : Step w w' (fun c => c ∈ T.blocks) (fun c => c ∈ T'.blocks)
  upd : Upd x b kv (ent n a T) (ent n a T')

theorem far {w : World} {b o c : Nat} {v : Value} {l : List Nat} (hm : c ∈ l) (hb : b ∉ l) : (w.setCell ⟨b, o, none⟩ v).heap[c]? = w.heap[c]? :=
  heap_setCell_other _ _ _ _ (fun e => hb (by have e' : c = b := e; rwa [← e']))

theorem nodup_nd {b : Nat} {k : Bool} {l r : Tr} : (Tr.nd b k l r).blocks.Nodup ↔ b ∉ l.blocks ∧ b ∉ r.blocks ∧ l.blocks.Nodup ∧ r.blocks.Nodup ∧ ∀ c ∈ l.blocks, c ∉ r.blocks := by
  simp only [Tr.blocks, List.nodup_cons, List.mem_append, not_or, List.nodup_append]
  constructor
  · rintro ⟨⟨h1, h2⟩, h3, h4, h5⟩
    exact ⟨h1, h2, h3, h4, fun c hc hr => h5 c hc c hr rfl⟩
  · rintro ⟨h1, h2, h3, h4, h5⟩
    exact ⟨⟨h1, h2⟩, h3, h4, fun c hc d hd e => h5 c hc (e ▸ hd)⟩

theorem ch_top {w : World} {n : Nat} {a : Int} {b : Nat} {k kv : Bool} {l r : Tr} (hn : n ≤ 32) (ha : a % 2 ^ n = 0) (h : Hd w (.nd b k l r)) (hw : Wf n (.nd b k l r)) (hd : (Tr.nd b k l r).blocks.Nodup) :
    Ch w (w.setCell ⟨b, 2, none⟩ (.bool kv)) n a a (32 - (n : Int)) kv (.nd b k l r) (.nd b kv l r) := by
  obtain ⟨h1, h2, h3, h4, h5⟩ := nodup_nd.1 hd
  refine ⟨⟨?_, h.2.1.keep fun c hc => far hc h1, h.2.2.keep fun c hc => far hc h2⟩, ?_, hd, ?_, upd_top hn ha⟩
  · rw [heap_setCell_same _ _ _ _ _ _ h.1]; rfl
  · cases n <;> exact hw
  · exact ((Step.refl w _).setCell (a := ⟨b, 2, none⟩) (by simp [Tr.blocks]) _)

theorem ch_left {w w3 : World} {n : Nat} {a x b : Int} {bk : Nat} {k kv : Bool} {l l' r : Tr} (hn : n + 1 ≤ 32) (ha : a % 2 ^ (n + 1) = 0) (hx : x < a + 2 ^ n) (hb : 31 - (n : Int) < b)
    (h : Hd w (.nd bk k l r)) (hw : Wf (n + 1) (.nd bk k l r)) (hd : (Tr.nd bk k l r).blocks.Nodup) (hc : Ch w w3 n a x b kv l l') :
    Ch w (w3.setCell ⟨bk, 0, none⟩ l'.ptr) (n + 1) a x b kv (.nd bk k l r) (.nd bk k l' r) := by
  obtain ⟨h1, h2, h3, h4, h5⟩ := nodup_nd.1 hd
  have hbk : bk < w.heap.size := h.lt bk (by simp [Tr.blocks])
  have hb3 : w3.heap[bk]? = some (.cells #[l.ptr, r.ptr, .bool k] 57 (0, 0)) := (hc.step.block bk hbk h1).trans h.1
  have n1 : bk ∉ l'.blocks := fun hm => (hc.step.foot bk hm).elim h1 (fun e => by omega)
  have n5 : ∀ c ∈ l'.blocks, c ∉ r.blocks := fun c hm hr => (hc.step.foot c hm).elim (fun hl => h5 c hl hr) (fun e => by have := h.2.2.lt c hr; omega)
  refine ⟨⟨?_, hc.hd.keep fun c hm => far hm n1, h.2.2.keep fun c hm => (far hm h2).trans (hc.step.block c (h.2.2.lt c hm) (fun hl => h5 c hl hm))⟩, ⟨hc.wf, hw.2⟩, nodup_nd.2 ⟨n1, h2, hc.nd, h4, n5⟩, ?_, upd_left hn ha hx hb hc.upd⟩
  · rw [heap_setCell_same _ _ _ _ _ _ hb3]; rfl
  · have s1 : Step w w3 (fun c => c ∈ (Tr.nd bk k l r).blocks) (fun c => c ∈ (Tr.nd bk k l' r).blocks) :=
      ⟨hc.step.os, hc.step.tape, hc.step.output, hc.step.size, fun c hcc hno => hc.step.block c hcc (fun hl => hno (by simp [Tr.blocks, hl])), fun c hm => by
        simp only [Tr.blocks, List.mem_cons, List.mem_append] at hm ⊢
        rcases hm with e | hm | hm
        · exact .inl (.inl e)
        · exact (hc.step.foot c hm).elim (fun hl => .inl (.inr (.inl hl))) .inr
        · exact .inl (.inr (.inr hm))⟩
    exact s1.setCell (a := ⟨bk, 0, none⟩) (by simp [Tr.blocks]) _
theorem ch_right {w w3 : World} {n : Nat} {a x b : Int} {bk : Nat} {k kv : Bool} {l r r' : Tr} (hn : n + 1 ≤ 32) (ha : a % 2 ^ (n + 1) = 0) (hx : a + 2 ^ n ≤ x) (hb : 31 - (n : Int) < b)
    (h : Hd w (.nd bk k l r)) (hw : Wf (n + 1) (.nd bk k l r)) (hd : (Tr.nd bk k l r).blocks.Nodup) (hc : Ch w w3 n (a + 2 ^ n) x b kv r r') :
    Ch w (w3.setCell ⟨bk, 1, none⟩ r'.ptr) (n + 1) a x b kv (.nd bk k l r) (.nd bk k l r') := by
  obtain ⟨h1, h2, h3, h4, h5⟩ := nodup_nd.1 hd
  have hbk : bk < w.heap.size := h.lt bk (by simp [Tr.blocks])
  have hb3 : w3.heap[bk]? = some (.cells #[l.ptr, r.ptr, .bool k] 57 (0, 0)) := (hc.step.block bk hbk h2).trans h.1
  have n2 : bk ∉ r'.blocks := fun hm => (hc.step.foot bk hm).elim h2 (fun e => by omega)
  have n5 : ∀ c ∈ l.blocks, c ∉ r'.blocks := fun c hl hm => (hc.step.foot c hm).elim (fun hr => h5 c hl hr) (fun e => by have := h.2.1.lt c hl; omega)
  refine ⟨⟨?_, h.2.1.keep fun c hm => (far hm h1).trans (hc.step.block c (h.2.1.lt c hm) (fun hr => h5 c hm hr)), hc.hd.keep fun c hm => far hm n2⟩, ⟨hw.1, hc.wf⟩, nodup_nd.2 ⟨h1, n2, h3, hc.nd, n5⟩, ?_, upd_right hn ha hx hb hc.upd⟩
  · rw [heap_setCell_same _ _ _ _ _ _ hb3]; rfl
  · have s1 : Step w w3 (fun c => c ∈ (Tr.nd bk k l r).blocks) (fun c => c ∈ (Tr.nd bk k l r').blocks) :=
      ⟨hc.step.os, hc.step.tape, hc.step.output, hc.step.size, fun c hcc hno => hc.step.block c hcc (fun hl => hno (by simp [Tr.blocks, hl])), fun c hm => by
        simp only [Tr.blocks, List.mem_cons, List.mem_append] at hm ⊢
        rcases hm with e | hm | hm
        · exact .inl (.inl e)
        · exact .inl (.inr (.inl hm))
        · exact (hc.step.foot c hm).elim (fun hl => .inl (.inr (.inr hl))) .inr⟩
    exact s1.setCell (a := ⟨bk, 1, none⟩) (by simp [Tr.blocks]) _
/-- A node that leads to nothing goes. -/
theorem ch_gone {w w' : World} {n : Nat} {a x b : Int} {bk : Nat} {kv : Bool} {T : Tr} (h : Ch w w' n a x b kv T (.nd bk false .e .e)) : Ch w w' n a x b kv T .e :=
  ⟨trivial, wf_e n, by simp [Tr.blocks], h.step.foots (fun c hc => by simp [Tr.blocks] at hc), upd_nothing h.upd⟩
/-- A node that is new. -/
theorem ch_new {w w' : World} {n : Nat} {a x b : Int} {kv : Bool} {T' : Tr} (o : Obj) (h : Ch (w.alloc o) w' n a x b kv (.nd w.heap.size false .e .e) T') : Ch w w' n a x b kv .e T' := by
  refine ⟨h.hd, h.wf, h.nd, ⟨h.step.os, h.step.tape, h.step.output, by have := h.step.size; simp at this; omega, fun c hc _ => ?_, fun c hc => .inr ?_⟩, by have := h.upd; rw [ent_none] at this; rwa [ent_e]⟩
  · rw [h.step.block c (by simp; omega) (by simp [Tr.blocks]; omega)]
    exact Below.heap_alloc _ _ _ hc
  · rcases h.step.foot c hc with hc | hc
    · simp [Tr.blocks] at hc; omega
    · simp at hc; omega
theorem Ch.drew {w w' : World} {n : Nat} {a x b : Int} {kv : Bool} {T T' : Tr} (h : Ch w.drew w' n a x b kv T T') : Ch w w' n a x b kv T T' :=
  ⟨h.hd, h.wf, h.nd, ⟨h.step.os, h.step.tape, h.step.output, h.step.size, h.step.block, h.step.foot⟩, h.upd⟩
theorem new_hd (w : World) : Hd (w.alloc (.cells #[.pointer none, .pointer none, .bool false] 57)) (.nd w.heap.size false .e .e) := ⟨World.alloc_heap_new w _, trivial, trivial⟩
theorem wf_new (n : Nat) (b : Nat) : Wf n (.nd b false .e .e) := by cases n <;> exact ⟨by first | rfl | exact wf_e _, by first | rfl | exact wf_e _⟩
theorem nd_new (b : Nat) : (Tr.nd b false .e .e).blocks.Nodup := by simp [Tr.blocks]
end Go.Proofs.Ytbfkpapankgndaa
