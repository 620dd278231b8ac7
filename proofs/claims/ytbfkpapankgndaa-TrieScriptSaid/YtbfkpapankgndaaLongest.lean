/-
  The contract of Longest, for whatever trie. Conditions: addresses are numbers of 32 bits.
-/
import Derived.Test.YtbfkpapankgndaaOverlaps
import Derived.BigRegionIn
namespace Go.Proofs.Ytbfkpapankgndaa
open Go.RowKit Go.Shelf

attribute [local go_sem] Oper.semAt_some

theorem heap_own {W W' : World} {row : Option Nat} {c : Nat} {o : Obj} (h : W.heap[c]? = some o) (ho : o.isCells = true) (hg : W.grownBy W' row) (hrow : ∀ r, row = some r → ∃ o : Obj, W.heap[r]? = some o ∧ o.isCells = false) : W'.heap[c]? = some o :=
  (hg.block c (Array.getElem?_eq_some_iff.1 h).1 (fun e => by obtain ⟨o', ho', hc'⟩ := hrow c e.symm; rw [h] at ho'; cases ho'; rw [ho] at hc'; cases hc')).trans h
theorem kv_two {b1 b2 : Nat} {W W' : World} (hs : W'.heap.size = W.heap.size) (hne : ∀ c, c ≠ b1 → c ≠ b2 → W'.heap[c]? = W.heap[c]?) {v : Value} (hv : W'.cell? ⟨b1, 0, none⟩ = some v) (ho : v.ownBlock = none) (h1 : b1 < W.heap.size) (h2 : b2 < W.heap.size) : Kv b1 b2 W W' := by
  have hvx : ∀ c, Vx b1 b2 W' c → c = b1 ∨ c = b2 := by
    rintro c (h | h | ⟨v', hv', ho'⟩)
    · exact .inl h
    · exact .inr h
    · rw [hv] at hv'; cases hv'; rw [ho] at ho'; cases ho'
  refine ⟨by omega, fun c o hc _ hn => (hne c (fun e => hn (.inl e)) (fun e => hn (.inr (.inl e)))).trans hc, fun c hc => .inl ((hvx c hc).elim .inl (fun e => .inr (.inl e))), fun _ c hc => ?_⟩
  rcases hvx c hc with rfl | rfl <;> omega
/-- New blocks, one behind the other. -/
def allocs (w : World) : List Obj → World
  | [] => w
  | o :: os => allocs (w.alloc o) os
theorem allocs_size : ∀ (os : List Obj) (w : World), (allocs w os).heap.size = w.heap.size + os.length
  | [], _ => rfl
  | o :: os, w => by rw [allocs, allocs_size os, World.size_alloc, List.length_cons]; omega
theorem allocs_below : ∀ (os : List Obj) (w : World), Below w.heap.size w (allocs w os)
  | [], w => Below.refl _ w
  | o :: os, w => ((Below.refl _ w).alloc (Nat.le_refl _) o).trans ((allocs_below os (w.alloc o)).mono (by simp))
theorem allocs_at : ∀ (os : List Obj) (w : World) (i : Nat) (o : Obj), os[i]? = some o → (allocs w os).heap[w.heap.size + i]? = some o
  | [], _, _, _, h => by simp at h
  | o :: os, w, 0, o', h => by
    obtain rfl : o = o' := by simpa using h
    rw [allocs, Nat.add_zero, (allocs_below os (w.alloc o)).block _ (by simp)]
    exact World.alloc_heap_new w o
  | o :: os, w, i + 1, o', h => by
    have := allocs_at os (w.alloc o) i o' (by simpa using h)
    rw [World.size_alloc] at this
    rw [allocs, show w.heap.size + (i + 1) = w.heap.size + 1 + i by omega]
    exact this
/-- The last one. -/
def lst (l : List (Int × Int)) : Int × Int := l.getLast?.getD (0, 0)
theorem lst_snoc (l : List (Int × Int)) (y : Int × Int) : lst (l ++ [y]) = y := by simp [lst]
def cs2 (y : Int × Int) : Obj := .cells #[.int .u32 y.1, .int .i64 y.2] 32 (0, 0)
theorem cells_2 {W : World} {B : Nat} {y : Int × Int} (h : W.heap[B]? = some (cs2 y)) : W.cell? ⟨B, 0, none⟩ = some (.int .u32 y.1) ∧ W.cell? ⟨B, 1, none⟩ = some (.int .i64 y.2) ∧ W.frozen? ⟨B, 0, none⟩ = false ∧ W.frozen? ⟨B, 1, none⟩ = false := by
  refine ⟨?_, ?_, ?_, ?_⟩ <;> simp [World.cell?, World.frozen?, h, cs2]
theorem set_2 {W : World} {B : Nat} {y : Int × Int} (z : Int × Int) (h : W.heap[B]? = some (cs2 y)) : ((W.setCell ⟨B, 0, none⟩ (.int .u32 z.1)).setCell ⟨B, 1, none⟩ (.int .i64 z.2)).heap[B]? = some (cs2 z) := by
  have h1 := heap_setCell_same W B 0 _ 32 (.int .u32 z.1) h
  rw [heap_setCell_same _ B 1 _ 32 (.int .i64 z.2) h1]
  rfl

set_option maxRecDepth 100000 in
set_option maxHeartbeats 2000000 in
theorem longest_in (x : Int) (p : Nat) (T : Tr) (w : World) (hT : Td w p T) (hx0 : 0 ≤ x) (hx1 : x < 4294967296) :
    CallsIn Fence.wide 1 Try.prog 16 #[.pointer (some ⟨p, 0, none⟩), .int .u32 x] w fun e w' => e = .returned (.tuple #[bv (lst (ovl x 32 32 0 T)), .bool (anyOv T x 32)]) ∧ Below w.heap.size w w' := by
  have HOV := Lib.hid fun W => callsIn_wide (n := 0).2 (over_any x 32 p W)
  refine callsIn_of_wp_marks Try.func16 rfl trivial ?_ rfl
  simp only [Try.ntmps16, List.size_toArray, List.length_cons, List.length_nil, Nat.reduceAdd, Nat.reduceSub, Array.replicate_succ, Array.replicate_zero, List.push_toArray, List.append_toArray, List.nil_append, List.cons_append]
  gi_wp2_with fail
  refine ⟨trivial, ?_⟩
  refine (HOV.out _).mono ?_
  rintro e w' ⟨rfl, rfl⟩
  gi_wp2_with fail
  obtain ⟨w1, hw1⟩ : ∃ w1, ((((w.alloc (.cells #[.int .u32 0, .int .i64 0] 32)).alloc (.cells #[.int .u32 0, .int .i64 0] 32)).alloc (.cells #[.bool false] 4)).alloc (.cells #[.pointer (some ⟨p, 0, none⟩)] 24)).alloc (.cells #[.int .u32 x, .int .i64 32] 32) = w1 := ⟨_, rfl⟩
  have hw2 : allocs w [cs2 (0, 0), cs2 (0, 0), .cells #[.bool false] 4, .cells #[.pointer (some ⟨p, 0, none⟩)] 24, .cells #[.int .u32 x, .int .i64 32] 32] = w1 := hw1
  have hB : Below w.heap.size w w1 := hw2 ▸ allocs_below _ w
  have hsz : w1.heap.size = w.heap.size + 5 := hw2 ▸ allocs_size _ w
  have h0 : w1.heap[w.heap.size]? = some (cs2 (0, 0)) := hw2 ▸ allocs_at _ w 0 _ rfl
  have h1 : w1.heap[w.heap.size + 1]? = some (cs2 (0, 0)) := hw2 ▸ allocs_at _ w 1 _ rfl
  have h2 : w1.heap[w.heap.size + 1 + 1]? = some (.cells #[.bool false] 4 (0, 0)) := hw2 ▸ allocs_at _ w 2 _ rfl
  have h3 : w1.heap[w.heap.size + 1 + 1 + 1]? = some (.cells #[.pointer (some ⟨p, 0, none⟩)] 24 (0, 0)) := hw2 ▸ allocs_at _ w 3 _ rfl
  have h4 : w1.heap[w.heap.size + 1 + 1 + 1 + 1]? = some (.cells #[.int .u32 x, .int .i64 32] 32 (0, 0)) := hw2 ▸ allocs_at _ w 4 _ rfl
  rw [hw1]
  clear hw1 hw2
  have hvx : ∀ c, Vx (w.heap.size + 1) (w.heap.size + 1 + 1) w1 c → c = w.heap.size + 1 ∨ c = w.heap.size + 1 + 1 := by
    rintro c (h | h | ⟨v, hv, ho⟩)
    · exact .inl h
    · exact .inr h
    · rw [(cells_2 h1).1] at hv; cases hv; cases ho
  refine wpIn_rangeFunc_ownH (F := Fence.wide) (n := 1) rfl (Nat.le_refl _) (gf := 33) (lb := #[.pointer (some ⟨w.heap.size + 1 + 1 + 1 + 1, 0, none⟩), .pointer (some ⟨w.heap.size + 1 + 1 + 1, 0, none⟩)]) rfl trivial (enters_of Try.func33 (by kernel_rfl) rfl)
    (over_stops (w.heap.size + 1) (w.heap.size + 1 + 1) p (w.heap.size + 1 + 1 + 1 + 1) (w.heap.size + 1 + 1 + 1) x 32 T w1 hx0 hx1 (hT.below hB) h4 h3 (fun c hc => by have := hvx c hc; omega) (fun hc => by have := hvx _ hc; omega) (fun c hc hv => by have := hvx c hv; have := hT.lt c hc; omega))
    kv_t (kv_b (by omega)) (Below.refl _ _) (fun _ => rfl)
    (fun pre W => (W.heap[w.heap.size]? = some (cs2 (0, 0)) ∧ W.heap[w.heap.size + 1]? = some (cs2 (lst pre)) ∧ W.heap[w.heap.size + 1 + 1]? = some (.cells #[.bool (!pre.isEmpty)] 4 (0, 0))) ∧ Below w.heap.size w W)
    (fun _ _ _ => False)
    (OwnFrom.and (Own.from (fun s A B row hs hg hr => ⟨heap_own hs.1 rfl hg hr, heap_own hs.2.1 rfl hg hr, heap_own hs.2.2 rfl hg hr⟩) _) (ownFrom_below (Nat.le_refl _) (by omega)))
    (fun _ _ _ _ _ hs _ _ => hs)
    ⟨⟨h0, h1, h2⟩, hB⟩
    (fun y a' W => ∃ B, W.heap[B]? = some (cs2 y) ∧ w.heap.size + 1 + 1 < B ∧ a' = { tmps := #[.pointer (some ⟨p, 0, none⟩), .int .u32 x, undef, undef, .pointer (some ⟨w.heap.size, 0, none⟩), .bool false, .pointer (some ⟨w.heap.size + 1, 0, none⟩), .pointer (some ⟨w.heap.size + 1 + 1, 0, none⟩), .pointer (some ⟨B, 0, none⟩),
      .agg #[.int .u32 0, .int .i64 0], .pointer (some ⟨p, 0, none⟩), .int .u32 x, .agg #[.int .u32 x, .int .i64 32], .func (.func 33) #[] #[.pointer (some ⟨w.heap.size + 1 + 1 + 1 + 1, 0, none⟩), .pointer (some ⟨w.heap.size + 1 + 1 + 1, 0, none⟩)], bv y, undef, undef, undef], defers := [] })
    (fun y a' => Own.from (fun _ A B row hs hg hr => by obtain ⟨b, h, hb, e⟩ := hs; exact ⟨b, heap_own h rfl hg hr, hb, e⟩) _) ?assign ?body ?done ?stop
  case assign =>
    rintro l pre y W K hi hK
    have hb1 : w.heap.size + 1 + 1 < W.heap.size := (Array.getElem?_eq_some_iff.1 hi.1.2.2).1
    have HA : Below W.heap.size W (W.alloc (cs2 y)) := (Below.refl _ W).alloc (Nat.le_refl _) _
    have HK := Lib.hid (hK _ (W.alloc (cs2 y)) ((KeepsOthers.alloc W (cs2 y)).from _) (.of_below HA (by omega)) ⟨⟨(HA.block _ (by omega)).trans hi.1.1, (HA.block _ (by omega)).trans hi.1.2.1, (HA.block _ hb1).trans hi.1.2.2⟩, hi.2.trans (HA.mono hi.2.size)⟩ ⟨W.heap.size, World.alloc_heap_new W _, hb1, rfl⟩)
    clear hi hK
    simp only [bv, cs2] at HK
    simp [bv]
    gi_wp2
    exact HK.out
  case body =>
    rintro l pre y a' W hl ⟨r, hr⟩ ⟨⟨q0, q1, q2⟩, hBW⟩ ⟨B, hB', hBn, rfl⟩ _
    obtain ⟨e0, e1, g0, g1⟩ := cells_2 hB'
    obtain ⟨i0, i1, j0, j1⟩ := cells_2 q1
    obtain ⟨k0, k1⟩ := cell_box q2
    gi_wp2
    have n1 : ((W.setCell ⟨w.heap.size + 1, 0, none⟩ (.int .u32 y.1)).setCell ⟨w.heap.size + 1, 1, none⟩ (.int .i64 y.2)).heap[w.heap.size + 1 + 1]? = some (.cells #[.bool (!pre.isEmpty)] 4 (0, 0)) := by
      rw [heap_setCell_other _ _ _ _ (by show ¬ w.heap.size + 1 + 1 = w.heap.size + 1; omega), heap_setCell_other _ _ _ _ (by show ¬ w.heap.size + 1 + 1 = w.heap.size + 1; omega)]
      exact q2
    obtain ⟨W', hW'⟩ : ∃ W', ((W.setCell ⟨w.heap.size + 1, 0, none⟩ (.int .u32 y.1)).setCell ⟨w.heap.size + 1, 1, none⟩ (.int .i64 y.2)).setCell ⟨w.heap.size + 1 + 1, 0, none⟩ (.bool true) = W' := ⟨_, rfl⟩
    have r0 : ∀ c, c ≠ w.heap.size + 1 → c ≠ w.heap.size + 1 + 1 → W'.heap[c]? = W.heap[c]? := fun c ha hb => by
      rw [← hW', heap_setCell_other _ _ _ _ hb, heap_setCell_other _ _ _ _ ha, heap_setCell_other _ _ _ _ ha]
    have r1 : W'.heap[w.heap.size + 1]? = some (cs2 y) := by
      rw [← hW', heap_setCell_other _ _ _ _ (by show ¬ w.heap.size + 1 = w.heap.size + 1 + 1; omega)]
      exact set_2 y q1
    have r2 : W'.heap[w.heap.size + 1 + 1]? = some (.cells #[.bool true] 4 (0, 0)) := by
      rw [← hW', heap_setCell_same _ _ _ _ _ _ n1]; rfl
    have hk : KeepsOthers W W' := hW' ▸ (((KeepsOthers.setCell _ _ _).trans (KeepsOthers.setCell _ _ _)).trans (KeepsOthers.setCell _ _ _))
    have hbel : Below w.heap.size w W' := hW' ▸ ((hBW.setCell (p := ⟨w.heap.size + 1, 0, none⟩) (by simp) _).setCell (p := ⟨w.heap.size + 1, 1, none⟩) (by simp) _).setCell (p := ⟨w.heap.size + 1 + 1, 0, none⟩) (by show w.heap.size ≤ w.heap.size + 1 + 1; omega) _
    have hsz' : W'.heap.size = W.heap.size := by rw [← hW']; simp [World.setCell]
    rw [hW']
    have l1 := (Array.getElem?_eq_some_iff.1 q1).1
    have l2 := (Array.getElem?_eq_some_iff.1 q2).1
    exact ⟨hk.from _, kv_two hsz' r0 (cells_2 r1).1 rfl l1 l2, ⟨(r0 _ (by omega) (by omega)).trans q0, by rw [lst_snoc]; exact r1, by rw [r2]; simp⟩, hbel⟩
  case done =>
    rintro D ys W hD rfl ⟨⟨q0, q1, q2⟩, hBW⟩ hK
    obtain ⟨e0, e1, g0, g1⟩ := cells_2 q0
    obtain ⟨i0, i1, _, _⟩ := cells_2 q1
    obtain ⟨k0, _⟩ := cell_box q2
    obtain ⟨em, hem⟩ : ∃ em, (ovl x 32 32 0 T).isEmpty = em := ⟨_, rfl⟩
    obtain ⟨⟨y1, y2⟩, hy⟩ : ∃ y, lst (ovl x 32 32 0 T) = y := ⟨_, rfl⟩
    rw [hem] at k0
    rw [hy] at i0 i1
    have HL := Lib.hid (show anyOv T x 32 = !em by rw [← hem]; rfl)
    have HY := Lib.hid hy
    clear hem hy
    gi_upto_region 5 with fail
    gi_region
    gi_wp2
    obtain ⟨W2, hW2⟩ : ∃ W2, ((W.setCell ⟨w.heap.size, 0, none⟩ (.int .u32 y1)).setCell ⟨w.heap.size, 1, none⟩ (.int .i64 y2)).drew = W2 := ⟨_, rfl⟩
    have hk : KeepsOthers W W2 := hW2 ▸ (((KeepsOthers.setCell _ _ _).trans (KeepsOthers.setCell _ _ _)).trans (KeepsOthers.drew _))
    have hK' := hk.same D _ hK rfl
    have r0 : W2.heap[w.heap.size]? = some (cs2 (y1, y2)) := hW2 ▸ set_2 (y1, y2) q0
    have hbel : Below w.heap.size w W2 := hW2 ▸ ((hBW.setCell (p := ⟨w.heap.size, 0, none⟩) (Nat.le_refl _) _).setCell (p := ⟨w.heap.size, 1, none⟩) (Nat.le_refl _) _).drew
    rw [hW2]
    have hb3 := hbel.trans (belowK_b (w := w) (Nat.le_refl _) W2 D _ (.deferred none) (by omega) hK' rfl rfl)
    have r1 : (W2.putObj D (.deferred none)).heap[w.heap.size]? = some (cs2 (y1, y2)) := heap_own r0 rfl (grownBy_putObj' _ D _) (fun r e => by cases e; exact ⟨_, hK', rfl⟩)
    obtain ⟨z0, z1, _, _⟩ := cells_2 r1
    refine ⟨by simp, .inl ⟨_, _, rfl, run_takeDeferred hK', ?_⟩⟩
    refine ⟨.tuple #[.agg #[.int .u32 y1, .int .i64 y2], .bool !em], ?_, by rw [HL.out, HY.out]; rfl, hb3⟩
    simp [results, Try.f16, go_sem, z0, z1]
  case stop =>
    rintro D c pre W hD hpre h _
    exact h.elim
theorem longest_any (x : Int) (p : Nat) (T : Tr) (w : World) (hT : Td w p T) (hx0 : 0 ≤ x) (hx1 : x < 4294967296) :
    Calls Try.prog 16 #[.pointer (some ⟨p, 0, none⟩), .int .u32 x] w fun e w' => e = .returned (.tuple #[bv (lst (ovl x 32 32 0 T)), .bool (anyOv T x 32)]) ∧ Below w.heap.size w w' := callsIn_wide.1 (longest_in x p T w hT hx0 hx1)
end Go.Proofs.Ytbfkpapankgndaa
