/-
  The contract of All (and of the library's AppendSeq and Collect over the iterator): a row of its own, of all prefixes in order. Conditions: fewer than a million prefixes.
-/
import Derived.Test.YtbfkpapankgndaaApp
import Derived.RangeFuncBox
namespace Go.Proofs.Ytbfkpapankgndaa
open Go.RowKit Go.Shelf

attribute [local go_sem] Oper.semAt_some

/-- What an append into a box keeps, but for the loop's own. -/
theorem kv_app {N : Nat} {W w1 W' : World} {v : Value} {g k cap : Nat} {tmp : Obj} (hv : Boxed W N 28 v) (hg : (W.alloc tmp).grownBy w1 v.ownBlock) (hne : v.ownBlock ≠ some N) (hW' : W' = w1.setCell ⟨N, 0, none⟩ (.slice (some ⟨g, 0, none⟩) k cap))
    (hb : Boxed W' N 28 (.slice (some ⟨g, 0, none⟩) k cap)) (h4 : v.ownBlock = some g ∨ g = (W.alloc tmp).heap.size) (h5 : g < w1.heap.size) : Kv N N W W' := by
  have hsz : W'.heap.size = w1.heap.size := by rw [hW']; simp [World.setCell]
  have hs1 : W.heap.size < w1.heap.size := by have := hg.size; simp at this; omega
  have hvx : ∀ c, Vx N N W' c → c = N ∨ c = g := by
    rintro c (h | h | ⟨u, hu, ho⟩)
    · exact .inl h
    · exact .inl h
    · rw [hb.cell] at hu; cases hu
      exact .inr (by simpa [Value.ownBlock] using ho.symm)
  have lN := hv.lt
  refine ⟨by omega, fun c o hc ho hn => ?_, fun c hc => ?_, fun _ c hc => ?_⟩
  · have hcl := (Array.getElem?_eq_some_iff.1 hc).1
    rw [hW', heap_setCell_other _ _ _ _ (by show ¬ c = N; exact fun e => hn (.inl e)), hg.block c (by simp; omega) (fun e => hn (.inr (.inr ⟨v, hv.cell, e.symm⟩))), Below.heap_alloc _ _ _ hcl]
    exact hc
  · rcases hvx c hc with rfl | rfl
    · exact .inl (.inl rfl)
    · rcases h4 with h4 | h4
      · exact .inl (.inr (.inr ⟨v, hv.cell, h4⟩))
      · exact .inr (by rw [h4]; simp)
  · rcases hvx c hc with rfl | rfl <;> omega

set_option maxRecDepth 100000 in
set_option maxHeartbeats 2000000 in
theorem appendSeq_in (x b : Int) (p Bb Bt : Nat) (T : Tr) (w : World) (hT : Td w p T) (hx0 : 0 ≤ x) (hx1 : x < 4294967296) (hBb : w.heap[Bb]? = some (cs2 (x, b))) (hBt : w.heap[Bt]? = some (.cells #[.pointer (some ⟨p, 0, none⟩)] 24 (0, 0))) (hfew : (ovl x b 32 0 T).length < 1000000) :
    CallsIn Fence.wide 1 Try.prog 35 #[.slice none 0 0, .func (.func 33) #[] #[.pointer (some ⟨Bb, 0, none⟩), .pointer (some ⟨Bt, 0, none⟩)]] w fun e W' => ∃ v, e = .returned v ∧ W'.ownsRow w.heap.size 32 2 v (ovl x b 32 0 T).length (pf (ovl x b 32 0 T)) ∧ Below w.heap.size w W' := by
  have lBb := (Array.getElem?_eq_some_iff.1 hBb).1
  have lBt := (Array.getElem?_eq_some_iff.1 hBt).1
  refine callsIn_of_wp_marks Try.func35 rfl trivial ?_ rfl
  simp only [Try.ntmps35, List.size_toArray, List.length_cons, List.length_nil, Nat.reduceAdd, Nat.reduceSub, Array.replicate_succ, Array.replicate_zero, List.push_toArray, List.append_toArray, List.nil_append, List.cons_append]
  gi_wp2_with fail
  obtain ⟨w1, hw1⟩ : ∃ w1, w.alloc (.cells #[.slice none 0 0] 28) = w1 := ⟨_, rfl⟩
  have hB : Below w.heap.size w w1 := hw1 ▸ (Below.refl _ w).alloc (Nat.le_refl _) _
  have bO : Boxed w1 w.heap.size 28 (.slice none 0 0) := hw1 ▸ Boxed.new w 28 _
  have hsz : w1.heap.size = w.heap.size + 1 := by rw [← hw1]; simp
  rw [hw1]
  clear hw1
  have hvx : ∀ c, Vx w.heap.size w.heap.size w1 c → c = w.heap.size := by
    rintro c (h | h | ⟨v, hv, ho⟩)
    · exact h
    · exact h
    · rw [bO.cell] at hv; cases hv; cases ho
  refine wpIn_rangeFunc_ownH (F := Fence.wide) (n := 1) rfl (Nat.le_refl _) (gf := 33) (lb := #[.pointer (some ⟨Bb, 0, none⟩), .pointer (some ⟨Bt, 0, none⟩)]) rfl trivial (enters_of Try.func33 (by kernel_rfl) rfl)
    (over_stops w.heap.size w.heap.size p Bb Bt x b T w1 hx0 hx1 (hT.below hB) ((hB.block _ lBb).trans hBb) ((hB.block _ lBt).trans hBt) (fun c hc => by have := hvx c hc; omega) (fun hc => by have := hvx _ hc; omega) (fun c hc hv => by have := hvx c hv; have := hT.lt c hc; omega))
    kv_t (kv_b (by omega)) (Below.refl _ _) (fun _ => rfl)
    (fun pre W => (∃ v, Boxed W w.heap.size 28 v ∧ W.ownsRow w.heap.size 32 2 v pre.length (pf pre) ∧ True) ∧ Below w.heap.size w W)
    (fun _ _ _ => False)
    (OwnFrom.and (Own.from (holdsRow_own w.heap.size w.heap.size 28 32 2 (fun pre : List (Int × Int) => pre.length) pf (fun _ _ => True)) _) (ownFrom_below (Nat.le_refl _) (by omega)))
    (fun _ _ _ _ _ hs _ _ => hs)
    ⟨⟨_, bO, World.ownsRow_nil _ _ _ _, trivial⟩, hB⟩
    (fun y a' W => ∃ B, W.heap[B]? = some (cs2 y) ∧ w.heap.size < B ∧ a' = { tmps := #[.slice none 0 0, .func (.func 33) #[] #[.pointer (some ⟨Bb, 0, none⟩), .pointer (some ⟨Bt, 0, none⟩)], .pointer (some ⟨w.heap.size, 0, none⟩), undef, .slice none 0 0, .pointer (some ⟨B, 0, none⟩),
      .func (.func 33) #[] #[.pointer (some ⟨Bb, 0, none⟩), .pointer (some ⟨Bt, 0, none⟩)], bv y, undef, undef, undef, undef, undef], defers := [] })
    (fun y a' => Own.from (fun _ A B row hs hg hr => by obtain ⟨b, h, hb, e⟩ := hs; exact ⟨b, heap_own h rfl hg hr, hb, e⟩) _) ?assign ?body ?done ?stop
  case assign =>
    rintro l pre y W K ⟨⟨v, hv, hrow, _⟩, hBW⟩ hK
    have HA : Below W.heap.size W (W.alloc (cs2 y)) := (Below.refl _ W).alloc (Nat.le_refl _) _
    have HK := Lib.hid (hK _ (W.alloc (cs2 y)) ((KeepsOthers.alloc W (cs2 y)).from _) (.of_below HA hv.lt) ⟨⟨v, hv.alloc _, hrow.alloc _, trivial⟩, hBW.trans (HA.mono hBW.size)⟩ ⟨W.heap.size, World.alloc_heap_new W _, hv.lt, rfl⟩)
    clear hK hv hrow
    simp only [bv, cs2] at HK
    simp [bv]
    gi_wp2
    exact HK.out
  case body =>
    rintro l pre y a' W hl ⟨r, hr⟩ ⟨⟨v, hv, hrow, _⟩, hBW⟩ ⟨B, hB', hBn, rfl⟩ hlen
    obtain ⟨e0, e1, _, _⟩ := cells_2 hB'
    have hc := hv.cell
    have hpl : pre.length < 1000000 := by omega
    have hnN : v.ownBlock ≠ some w.heap.size := fun e => hv.not_row (by decide) hrow e.symm
    gi_wp2_with (gi_at_builtin; refine wpListIn_app32 _ rfl _ _ rfl w.heap.size _ pre rfl (hrow.alloc _) W.heap.size 1 y rfl (World.alloc_heap_new W _) hpl (by have := hBW.size; simp; omega) ?_; intro g cap w3 hown' hgrow hg4 hg5 hg6; obtain ⟨hv1, hv2, hr2, hk2, hb2⟩ := hv.appended (by decide) hrow hBW.size (Nat.le_refl _) hown' hgrow; have hc1 := hv1.cell; have hf1 := hv1.frozen)
    exact ⟨hk2.from _, kv_app hv hgrow hnN rfl hv2 hg4 hg5, ⟨⟨_, hv2, by simpa using hr2, trivial⟩, hBW.trans hb2⟩⟩
  case done =>
    rintro D ys W hD rfl ⟨⟨v, hv, hrow, _⟩, hBW⟩ hK
    have hc := hv.cell
    gi_wp2
    refine ⟨by simp, .inl ⟨_, _, rfl, run_takeDeferred hK, ?_⟩⟩
    exact ⟨_, results_tmp rfl _ _ _, v, rfl, ownsRow_putObj hrow _ hK rfl, hBW.trans (belowK_b (w := w) (Nat.le_refl _) W D _ _ (by omega) hK rfl rfl)⟩
  case stop =>
    rintro D c pre W hD hpre h _
    exact h.elim
theorem ovl_all (T : Tr) : ovl 0 0 32 0 T = ent 32 0 T := by
  unfold ovl
  rw [List.filter_eq_self]
  intro y hy
  have h := ent_32 hy
  refine over_iff.2 (.inl (within_iff.2 ⟨h.1, by decide, ?_, (ok_out h.1).1⟩))
  rw [p2_0, Int.emod_eq_of_lt h.2.1 h.2.2]
  omega

set_option maxRecDepth 100000 in
theorem collect_any (x b : Int) (p Bb Bt : Nat) (T : Tr) (w : World) (hT : Td w p T) (hx0 : 0 ≤ x) (hx1 : x < 4294967296) (hBb : w.heap[Bb]? = some (cs2 (x, b))) (hBt : w.heap[Bt]? = some (.cells #[.pointer (some ⟨p, 0, none⟩)] 24 (0, 0))) (hfew : (ovl x b 32 0 T).length < 1000000) :
    Calls Try.prog 31 #[.func (.func 33) #[] #[.pointer (some ⟨Bb, 0, none⟩), .pointer (some ⟨Bt, 0, none⟩)]] w fun e W' => ∃ v, e = .returned v ∧ W'.ownsRow w.heap.size 32 2 v (ovl x b 32 0 T).length (pf (ovl x b 32 0 T)) ∧ Below w.heap.size w W' := by
  have HA := Lib.hid (callsIn_wide.1 (appendSeq_in x b p Bb Bt T w hT hx0 hx1 hBb hBt hfew))
  clear hT hBb hBt
  go_enter Try.func31, Try.ntmps31
  go_wp2_with fail
  refine HA.out.mono ?_
  rintro e w1 ⟨v, rfl, hr, hb⟩
  have HR := Lib.hid hr
  have HB := Lib.hid hb
  clear hr hb
  go_wp2_with fail
  go_ret
  exact ⟨_, rfl, HR.out, HB.out⟩
set_option maxRecDepth 100000 in
theorem all_any (p : Nat) (T : Tr) (w : World) (hT : Td w p T) (hfew : (ent 32 0 T).length < 1000000) :
    Calls Try.prog 19 #[.pointer (some ⟨p, 0, none⟩)] w fun e W' => ∃ v, e = .returned v ∧ W'.ownsRow w.heap.size 32 2 v (ent 32 0 T).length (pf (ent 32 0 T)) ∧ Below w.heap.size w W' := by
  have HO := Lib.hid (over_any 0 0 p w)
  obtain ⟨w1, hw1⟩ : ∃ w1, (w.alloc (.cells #[.pointer (some ⟨p, 0, none⟩)] 24)).alloc (.cells #[.int .u32 0, .int .i64 0] 32) = w1 := ⟨_, rfl⟩
  have hw2 : allocs w [.cells #[.pointer (some ⟨p, 0, none⟩)] 24, cs2 (0, 0)] = w1 := hw1
  have hB : Below w.heap.size w w1 := hw2 ▸ allocs_below _ w
  have h0 : w1.heap[w.heap.size]? = some (.cells #[.pointer (some ⟨p, 0, none⟩)] 24 (0, 0)) := hw2 ▸ allocs_at _ w 0 _ rfl
  have h1 : w1.heap[w.heap.size + 1]? = some (cs2 (0, 0)) := hw2 ▸ allocs_at _ w 1 _ rfl
  have hsz : w1.heap.size = w.heap.size + 2 := hw2 ▸ allocs_size _ w
  have HC := Lib.hid (collect_any 0 0 p (w.heap.size + 1) w.heap.size T w1 (hT.below hB) (by omega) (by omega) h1 h0 (by rw [ovl_all]; exact hfew))
  rw [ovl_all] at HC
  have HB := Lib.hid hB
  have HW := Lib.hid hw1
  clear hT hw2 h0 h1 hB hw1
  go_enter Try.func19, Try.ntmps19
  go_wp2_with fail
  refine HO.out.mono ?_
  rintro e w2 ⟨rfl, rfl⟩
  rw [HW.out]
  go_wp2_with fail
  refine HC.out.mono ?_
  rintro e w3 ⟨v, rfl, hr, hb⟩
  have HR := Lib.hid hr
  have HB2 := Lib.hid hb
  clear hr hb
  go_wp2_with fail
  go_ret
  refine ⟨_, rfl, ?_, HB.out.trans (HB2.out.mono HB.out.size)⟩
  have h := HR.out
  refine ⟨h.1, ?_⟩
  rcases h.2 with h2 | ⟨g, cap, cur, e, hg, r⟩
  · exact .inl h2
  · exact .inr ⟨g, cap, cur, e, by omega, r⟩
end Go.Proofs.Ytbfkpapankgndaa
