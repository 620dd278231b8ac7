/-
  What of memory holds a trie, and which memory a step may have turned; the contracts of Len, Has and of the bit at a depth. Conditions: addresses are numbers of 32 bits.
-/
import Derived.Test.YtbfkpapankgndaaOver
import Derived.Deep.OwnRows
import Derived.Deep.LoopGhost
import Derived.Deep.CutRange
import Derived.Lib.Hide
import Derived.Below
import Derived.KernelRfl
namespace Go.Proofs.Ytbfkpapankgndaa
open Go.RowKit

/-- Only blocks of F, of those that were there, may have turned; F' has none besides but new ones. -/
structure Step (w w' : World) (F F' : Nat → Prop) : Prop where
  os : w'.os = w.os
  tape : w'.tape = w.tape
  output : w'.output = w.output
  size : w.heap.size ≤ w'.heap.size
  block : ∀ b, b < w.heap.size → ¬ F b → w'.heap[b]? = w.heap[b]?
  foot : ∀ b, F' b → F b ∨ w.heap.size ≤ b

namespace Step
variable {w w' w'' : World} {F F' F'' : Nat → Prop}
theorem refl (w : World) (F : Nat → Prop) : Step w w F F := ⟨rfl, rfl, rfl, Nat.le_refl _, fun _ _ _ => rfl, fun _ h => .inl h⟩
theorem trans (h : Step w w' F F') (g : Step w' w'' F' F'') : Step w w'' F F'' :=
  ⟨g.os.trans h.os, g.tape.trans h.tape, g.output.trans h.output, Nat.le_trans h.size g.size,
   fun b hb hn => (g.block b (Nat.lt_of_lt_of_le hb h.size) (fun hf => (h.foot b hf).elim hn (fun e => by omega))).trans (h.block b hb hn),
   fun b hb => (g.foot b hb).elim (h.foot b) (fun e => .inr (Nat.le_trans h.size e))⟩
theorem alloc (h : Step w w' F F') (o : Obj) : Step w (w'.alloc o) F F' :=
  h.trans ⟨rfl, rfl, rfl, by simp, fun b hb _ => Below.heap_alloc _ _ _ hb, fun _ h => .inl h⟩
theorem setCell (h : Step w w' F F') {a : Addr} (ha : F' a.block) (v : Value) : Step w (w'.setCell a v) F F' :=
  h.trans ⟨rfl, rfl, rfl, by simp [World.setCell], fun b _ hn => Below.heap_setCell _ _ _ _ (fun e => hn (e ▸ ha)), fun _ h => .inl h⟩
theorem drew (h : Step w w' F F') : Step w w'.drew F F' := ⟨h.os, h.tape, h.output, h.size, h.block, h.foot⟩
theorem foots (h : Step w w' F F') (hs : ∀ b, F'' b → F b ∨ w.heap.size ≤ b) : Step w w' F F'' := ⟨h.os, h.tape, h.output, h.size, h.block, hs⟩
theorem wider {G : Nat → Prop} (h : Step w w' F F') (hs : ∀ b, F b → G b) : Step w w' G (fun b => G b ∨ F' b) :=
  ⟨h.os, h.tape, h.output, h.size, fun b hb hn => h.block b hb (fun hf => hn (hs b hf)), fun b hb => hb.elim .inl (fun hf => (h.foot b hf).elim (fun x => .inl (hs b x)) .inr)⟩
theorem below {B : Nat} (h : Step w w' F F') (hB : B ≤ w.heap.size) (hF : ∀ b, F b → B ≤ b) : Below B w w' :=
  ⟨h.os, h.tape, h.output, h.size, fun b hb => h.block b (by omega) (fun hf => by have := hF b hf; omega)⟩
theorem of_below (h : Below w.heap.size w w') (F : Nat → Prop) : Step w w' F F := ⟨h.os, h.tape, h.output, h.size, fun b hb _ => h.block b hb, fun _ h => .inl h⟩
end Step

def Tr.ptr : Tr → Value
  | .e => .pointer none
  | .nd b _ _ _ => .pointer (some ⟨b, 0, none⟩)
/-- Memory holds these nodes. -/
def Hd (w : World) : Tr → Prop
  | .e => True
  | .nd b k l r => w.heap[b]? = some (.cells #[l.ptr, r.ptr, .bool k] 57 (0, 0)) ∧ Hd w l ∧ Hd w r
theorem Hd.keep {w w' : World} : ∀ {T : Tr}, Hd w T → (∀ c ∈ T.blocks, w'.heap[c]? = w.heap[c]?) → Hd w' T
  | .e, _, _ => trivial
  | .nd b k l r, h, hb => ⟨(hb b (by simp [Tr.blocks])).trans h.1, h.2.1.keep fun c hc => hb c (by simp [Tr.blocks, hc]), h.2.2.keep fun c hc => hb c (by simp [Tr.blocks, hc])⟩
theorem Hd.lt {w : World} : ∀ {T : Tr}, Hd w T → ∀ c ∈ T.blocks, c < w.heap.size
  | .e, _, c, hc => by simp [Tr.blocks] at hc
  | .nd b k l r, h, c, hc => by
    simp only [Tr.blocks, List.mem_cons, List.mem_append] at hc
    rcases hc with rfl | hc | hc
    · exact (Array.getElem?_eq_some_iff.1 h.1).1
    · exact h.2.1.lt c hc
    · exact h.2.2.lt c hc
theorem Hd.below {w w' : World} {T : Tr} (h : Hd w T) (hb : Below w.heap.size w w') : Hd w' T := h.keep fun c hc => hb.block c (h.lt c hc)
theorem Hd.step {w w' : World} {T : Tr} {F F' : Nat → Prop} (h : Hd w T) (hs : Step w w' F F') (hF : ∀ c ∈ T.blocks, ¬ F c) : Hd w' T := h.keep fun c hc => hs.block c (h.lt c hc) (hF c hc)

/-- Memory holds this trie, in block p. -/
structure Td (w : World) (p : Nat) (T : Tr) : Prop where
  blk : w.heap[p]? = some (.cells #[T.ptr, .int .i64 ((ent 32 0 T).length : Int)] 27 (0, 0))
  hd : Hd w T
  wf : Wf 32 T
  nd : T.blocks.Nodup
  out : p ∉ T.blocks
  few : (ent 32 0 T).length < 4611686018427387904
/-- The blocks of a trie. -/
def fp (p : Nat) (T : Tr) : Nat → Prop := fun b => b = p ∨ b ∈ T.blocks
namespace Td
variable {w w' : World} {p : Nat} {T : Tr}
theorem plt (h : Td w p T) : p < w.heap.size := (Array.getElem?_eq_some_iff.1 h.blk).1
theorem lt (h : Td w p T) : ∀ c, fp p T c → c < w.heap.size := fun c hc => hc.elim (fun e => e ▸ h.plt) (h.hd.lt c)
theorem keep (h : Td w p T) (hk : ∀ c, fp p T c → w'.heap[c]? = w.heap[c]?) : Td w' p T :=
  ⟨(hk p (.inl rfl)).trans h.blk, h.hd.keep fun c hc => hk c (.inr hc), h.wf, h.nd, h.out, h.few⟩
theorem below (h : Td w p T) (hb : Below w.heap.size w w') : Td w' p T := h.keep fun c hc => hb.block c (h.lt c hc)
theorem step {F F' : Nat → Prop} (h : Td w p T) (hs : Step w w' F F') (hF : ∀ c, fp p T c → ¬ F c) : Td w' p T := h.keep fun c hc => hs.block c (h.lt c hc) (hF c hc)
theorem c0 (h : Td w p T) : w.cell? ⟨p, 0, none⟩ = some T.ptr := by simp [World.cell?, h.blk]
theorem c1 (h : Td w p T) : w.cell? ⟨p, 1, none⟩ = some (.int .i64 ((ent 32 0 T).length : Int)) := by simp [World.cell?, h.blk]
theorem f0 (h : Td w p T) : w.frozen? ⟨p, 0, none⟩ = false := by simp [World.frozen?, h.blk]
theorem f1 (h : Td w p T) : w.frozen? ⟨p, 1, none⟩ = false := by simp [World.frozen?, h.blk]
end Td

theorem and1 (a : Int) (h0 : 0 ≤ a) (h1 : a < 4294967296) : bits .and .u32 a 1 = a % 2 := by
  rw [u32_and a 1 h0 h1 (by decide) (by decide)]
  rw [show (1 : Int).toNat = 2 ^ 1 - 1 from rfl, Nat.and_two_pow_sub_one_eq_mod]
  omega

/-- The bit at a depth. -/
theorem bit_any (a d t : Int) (w : World) (h0 : 0 ≤ a) (h1 : a < 4294967296) (d0 : 0 ≤ d) (d1 : d ≤ 31) (h : a / 2 ^ (31 - d).toNat % 2 = t) : Calls Try.prog 25 #[.int .u32 a, .int .i64 d] w fun e w' => e = .returned (.int .i64 t) ∧ w' = w := by
  have hq0 : 0 ≤ a / 2 ^ (31 - d).toNat := Int.ediv_nonneg h0 (Int.le_of_lt (two_pos _))
  have hq1 : a / 2 ^ (31 - d).toNat < 4294967296 := Int.lt_of_le_of_lt (Int.ediv_le_self _ h0) h1
  have hb := and1 _ hq0 hq1
  have hw : wrap64 (31 - d) = 31 - d := by unfold wrap64; omega
  have hw2 : wrap64 (a / 2 ^ (31 - d).toNat % 2) = a / 2 ^ (31 - d).toNat % 2 := by unfold wrap64; omega
  have HT := Lib.hid h
  clear h
  go_enter Try.func25, Try.ntmps25
  go_wp2_with fail
  go_ret
  exact ⟨by rw [← HT.out]; rfl, rfl⟩
end Go.Proofs.Ytbfkpapankgndaa
