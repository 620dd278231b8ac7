/-
  The contract of Overlaps, for whatever trie. Conditions: addresses are numbers of 32 bits.
-/
import Derived.Test.YtbfkpapankgndaaIter
import Derived.Shelf.Abstract
namespace Go.Proofs.Ytbfkpapankgndaa
open Go.RowKit Go.Shelf

attribute [local go_sem] Oper.semAt_some

theorem cell_box {W : World} {B : Nat} {v : Value} {t : TypeId} (h : W.heap[B]? = some (.cells #[v] t (0, 0))) : W.cell? ⟨B, 0, none⟩ = some v ∧ W.frozen? ⟨B, 0, none⟩ = false := by
  constructor <;> simp [World.cell?, World.frozen?, h]
/-- Whether any overlaps. -/
def anyOv (T : Tr) (x b : Int) : Bool := !(ovl x b 32 0 T).isEmpty

set_option maxRecDepth 100000 in
set_option maxHeartbeats 2000000 in
theorem overlaps_in (x b : Int) (p : Nat) (T : Tr) (w : World) (hT : Td w p T) (hx0 : 0 ≤ x) (hx1 : x < 4294967296) :
    CallsIn Fence.wide 1 Try.prog 17 #[.pointer (some ⟨p, 0, none⟩), .agg #[.int .u32 x, .int .i64 b]] w fun e w' => e = .returned (.bool (anyOv T x b)) ∧ Below w.heap.size w w' := by
  have HOV := Lib.hid fun W => callsIn_wide (n := 0).2 (over_any x b p W)
  refine callsIn_of_wp_marks Try.func17 rfl trivial ?_ rfl
  simp only [Try.ntmps17, List.size_toArray, List.length_cons, List.length_nil, Nat.reduceAdd, Nat.reduceSub, Array.replicate_succ, Array.replicate_zero, List.push_toArray, List.append_toArray, List.nil_append, List.cons_append]
  gi_wp2_with fail
  refine ⟨trivial, ?_⟩
  refine (HOV.out _).mono ?_
  rintro e w' ⟨rfl, rfl⟩
  gi_wp2_with fail
  obtain ⟨w1, hw1⟩ : ∃ w1, (((w.alloc (.cells #[.int .u32 x, .int .i64 b] 32)).alloc (.cells #[.bool false] 4)).alloc (.cells #[.pointer (some ⟨p, 0, none⟩)] 24)).alloc (.cells #[.int .u32 x, .int .i64 b] 32) = w1 := ⟨_, rfl⟩
  have hB : Below w.heap.size w w1 := by
    rw [← hw1]
    exact ((((Below.refl _ w).alloc (Nat.le_refl _) _).alloc (by simp) _).alloc (by simp; omega) _).alloc (by simp; omega) _
  have h1 : w1.heap[w.heap.size + 1]? = some (.cells #[.bool false] 4 (0, 0)) := by
    rw [← hw1, Below.heap_alloc _ _ _ (by simp), Below.heap_alloc _ _ _ (by simp)]
    have := World.alloc_heap_new (w.alloc (.cells #[.int .u32 x, .int .i64 b] 32)) (.cells #[.bool false] 4)
    rwa [World.size_alloc] at this
  have h2 : w1.heap[w.heap.size + 1 + 1]? = some (.cells #[.pointer (some ⟨p, 0, none⟩)] 24 (0, 0)) := by
    rw [← hw1, Below.heap_alloc _ _ _ (by simp)]
    have := World.alloc_heap_new ((w.alloc (.cells #[.int .u32 x, .int .i64 b] 32)).alloc (.cells #[.bool false] 4)) (.cells #[.pointer (some ⟨p, 0, none⟩)] 24)
    rwa [World.size_alloc, World.size_alloc] at this
  have h3 : w1.heap[w.heap.size + 1 + 1 + 1]? = some (.cells #[.int .u32 x, .int .i64 b] 32 (0, 0)) := by
    rw [← hw1]
    have := World.alloc_heap_new (((w.alloc (.cells #[.int .u32 x, .int .i64 b] 32)).alloc (.cells #[.bool false] 4)).alloc (.cells #[.pointer (some ⟨p, 0, none⟩)] 24)) (.cells #[.int .u32 x, .int .i64 b] 32)
    rwa [World.size_alloc, World.size_alloc, World.size_alloc] at this
  rw [hw1]
  have hsz : w1.heap.size = w.heap.size + 1 + 1 + 1 + 1 := by rw [← hw1]; simp
  clear hw1
  obtain ⟨c1, f1⟩ := cell_box h1
  have hvx : ∀ c, Vx (w.heap.size + 1) (w.heap.size + 1) w1 c → c = w.heap.size + 1 := by
    rintro c (h | h | ⟨v, hv, ho⟩)
    · exact h
    · exact h
    · rw [c1] at hv; cases hv; cases ho
  refine wpIn_rangeFunc_ownF (F := Fence.wide) (n := 1) rfl (Nat.le_refl _) (gf := 33) (lb := #[.pointer (some ⟨w.heap.size + 1 + 1 + 1, 0, none⟩), .pointer (some ⟨w.heap.size + 1 + 1, 0, none⟩)]) rfl trivial (enters_of Try.func33 (by kernel_rfl) rfl)
    (over_stops (w.heap.size + 1) (w.heap.size + 1) p (w.heap.size + 1 + 1 + 1) (w.heap.size + 1 + 1) x b T w1 hx0 hx1 (hT.below hB) h3 h2 (fun c hc => by have := hvx c hc; omega) (fun hc => by have := hvx _ hc; omega) (fun c hc hv => by have := hvx c hv; have := hT.lt c hc; omega))
    kv_t (kv_b (by omega)) (Below.refl _ _) (fun _ => rfl)
    (fun pre W => (pre = [] ∧ W.cell? ⟨w.heap.size + 1, 0, none⟩ = some (.bool false) ∧ W.frozen? ⟨w.heap.size + 1, 0, none⟩ = false) ∧ Below w.heap.size w W)
    (fun c pre W => (c = .ret ∧ pre ≠ [] ∧ W.cell? ⟨w.heap.size + 1, 0, none⟩ = some (.bool true)) ∧ Below w.heap.size w W)
    (OwnFrom.and (Own.from (fun s A B row hs hg hr => ⟨hs.1, cell_kept hs.2.1 hg hr, (frozen_kept hs.2.1 hg hr).trans hs.2.2⟩) _) (ownFrom_below (Nat.le_refl _) (by omega)))
    (fun c => OwnFrom.and (Own.from (fun s A B row hs hg hr => ⟨hs.1, hs.2.1, cell_kept hs.2.2 hg hr⟩) _) (ownFrom_below (Nat.le_refl _) (by omega)))
    ⟨⟨rfl, c1, f1⟩, hB⟩
    (fun y => { tmps := #[.pointer (some ⟨p, 0, none⟩), .agg #[.int .u32 x, .int .i64 b], undef, .pointer (some ⟨w.heap.size, 0, none⟩), .pointer (some ⟨w.heap.size + 1, 0, none⟩), .pointer (some ⟨p, 0, none⟩), .agg #[.int .u32 x, .int .i64 b], .func (.func 33) #[] #[.pointer (some ⟨w.heap.size + 1 + 1 + 1, 0, none⟩), .pointer (some ⟨w.heap.size + 1 + 1, 0, none⟩)], bv y], defers := [] }) ?assign ?body ?done ?stop
  case assign =>
    intro l y W K hK
    gi_wp2
    simpa using hK
  case body =>
    rintro l pre y W ⟨⟨hp, hc, hf⟩, hBW⟩ _
    gi_wp2
    exact ⟨KeepsOthers.setCell _ _ _, ⟨rfl, by simp, World.cell?_setCell_same' _ _ _ (by rw [hc]; rfl)⟩, hBW.setCell (p := ⟨w.heap.size + 1, 0, none⟩) (by simp) _⟩
  case done =>
    rintro D ys W hD rfl ⟨⟨hne, hc, hf⟩, hBW⟩ hK
    have HNE := Lib.hid (show anyOv T x b = false by unfold anyOv; rw [hne]; rfl)
    clear hne
    gi_wp2
    have hK' := (KeepsOthers.setCell W ⟨w.heap.size + 1, 0, none⟩ (.bool false)).same D _ hK rfl
    refine ⟨by simp, .inl ⟨_, _, rfl, run_takeDeferred hK', ?_⟩⟩
    have hc5 := cell_kept (World.cell?_setCell_same' W ⟨w.heap.size + 1, 0, none⟩ (.bool false) (by rw [hc]; rfl)) (grownBy_putObj' _ D (.deferred none)) (fun r e => by cases e; exact ⟨_, hK', rfl⟩)
    refine ⟨.bool false, ?_, by rw [HNE.out], (hBW.setCell (p := ⟨w.heap.size + 1, 0, none⟩) (by simp) _).trans (belowK_b (w := w) (Nat.le_refl _) _ D _ _ (by omega) hK' rfl rfl)⟩
    simp [results, Try.f17, go_sem, hc5]
  case stop =>
    rintro D c pre W hD hpre ⟨⟨rfl, hne, hc⟩, hBW⟩ hK
    have HNE := Lib.hid (show anyOv T x b = true by
      unfold anyOv
      obtain ⟨r, hr⟩ := hpre
      rw [← hr]
      cases pre with
      | nil => exact absurd rfl hne
      | cons y pre => rfl)
    clear hne
    gi_wp2
    refine ⟨by simp, .inl ⟨_, _, rfl, run_takeDeferred hK, ?_⟩⟩
    have hc5 := cell_kept hc (grownBy_putObj' _ D (.deferred none)) (fun r e => by cases e; exact ⟨_, hK, rfl⟩)
    refine ⟨.bool true, ?_, by rw [HNE.out], hBW.trans (belowK_b (w := w) (Nat.le_refl _) W D _ _ (by omega) hK rfl rfl)⟩
    simp [results, Try.f17, go_sem, hc5]
theorem overlaps_any (x b : Int) (p : Nat) (T : Tr) (w : World) (hT : Td w p T) (hx0 : 0 ≤ x) (hx1 : x < 4294967296) :
    Calls Try.prog 17 #[.pointer (some ⟨p, 0, none⟩), .agg #[.int .u32 x, .int .i64 b]] w fun e w' => e = .returned (.bool (anyOv T x b)) ∧ Below w.heap.size w w' := callsIn_wide.1 (overlaps_in x b p T w hT hx0 hx1)
end Go.Proofs.Ytbfkpapankgndaa
