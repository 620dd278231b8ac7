/-
  TrieHalves, walked. Conditions: the bounds of its parameters' types.
-/
import Derived.Test.YtbfkpapankgndaaHv
import Derived.BigRegionIn
namespace Go.Proofs.Ytbfkpapankgndaa
open Go.RowKit

set_option maxRecDepth 100000 in
set_option maxHeartbeats 2000000 in
/-- A prefix of 32 bits has no halves. -/
theorem halves_32 (a0 a1 at_ ba bb : Int) (w : World) (hb0 : 0 ≤ ba) (hb1 : ba < 4294967296) (h32 : bb = 32)
    (HX : ∀ W, Calls Try.prog 21 #[.int .u32 a0, .int .u8 a1] W fun e w' => e = .returned (.agg #[.int .u32 ba, .int .i64 bb]) ∧ Below W.heap.size W w') :
    CallsIn Fence.wide 0 Try.prog 6 #[.int .u32 a0, .int .u8 a1, .int .u16 at_] w fun e w' => e = .returned (.bool true) ∧ Below w.heap.size w w' := by
  subst h32
  have HXX := Lib.hid fun W => callsIn_wide (n := 0).2 (HX W)
  have HA := Lib.hid (callsIn_wide (n := 0).2 (awake_any w))
  have HH := Lib.hid fun W => callsIn_wide (n := 0).2 (halves_no ba 32 W hb0 hb1 (by simp [halvesB]))
  clear HX
  refine callsIn_of_wp Try.func6 rfl trivial ?_
  simp only [Try.ntmps6, List.size_toArray, List.length_cons, List.length_nil, Nat.reduceAdd, Nat.reduceSub, Array.replicate_succ, Array.replicate_zero, List.push_toArray, List.append_toArray, List.nil_append, List.cons_append]
  gi_wp2_with fail
  refine ⟨trivial, rfl, ?_⟩
  refine HA.out.mono ?_
  rintro e w1 ⟨rfl, hb⟩
  have HB1 := Lib.hid hb
  clear hb HA
  gi_wp2_with fail
  refine ⟨trivial, rfl, ?_⟩
  refine (HXX.out _).mono ?_
  rintro e w2 ⟨rfl, hb⟩
  have HB2 := Lib.hid (HB1.out.trans (hb.mono HB1.out.size))
  have n2 : (w2.alloc (cs2 (ba, 32))).heap[w2.heap.size]? = some (cs2 (ba, 32)) := World.alloc_heap_new w2 _
  clear hb
  gi_wp2_with fail
  refine ⟨trivial, rfl, ?_⟩
  refine (HH.out _).mono ?_
  rintro e w3 ⟨rfl, hb⟩
  have n3 : w3.heap[w2.heap.size]? = some (cs2 (ba, 32)) := (hb.block _ (by simp)).trans n2
  obtain ⟨k0, k1, _, _⟩ := cells_2 n3
  have HB2' := HB2.out.alloc HB2.out.size (.cells #[.int .u32 ba, .int .i64 32] 32)
  have HB3 := Lib.hid (HB2'.trans (hb.mono HB2'.size))
  have hl := (Array.getElem?_eq_some_iff.1 n3).1
  clear hb n2 n3 HB2'
  gi_wp2_with fail
  go_ret
  exact ⟨rfl, (HB3.out.alloc HB3.out.size _).alloc (by have := HB3.out.size; simp; omega) _⟩

set_option maxRecDepth 100000 in
set_option maxHeartbeats 2000000 in
theorem halves_core (a0 a1 at_ ba bb x c S : Int) (q : Bool) (w : World) (h : Hv ba bb x c q) (hS : S = p2 bb) (hat0 : 0 ≤ at_) (hat1 : at_ < 65536) (hx : x = ba + at_ % S) (hc : bits .xor .u32 ba (2 ^ (32 - bb).toNat % 4294967296) = c)
    (HX : ∀ W, Calls Try.prog 21 #[.int .u32 a0, .int .u8 a1] W fun e w' => e = .returned (.agg #[.int .u32 ba, .int .i64 bb]) ∧ Below W.heap.size W w') :
    CallsIn Fence.wide 0 Try.prog 6 #[.int .u32 a0, .int .u8 a1, .int .u16 at_] w fun e w' => e = .returned (.bool true) ∧ Below w.heap.size w w' := by
  have hp := p2_pos bb
  have hpu := p2_le bb h.bits0
  have hk0 : 0 ≤ at_ % S := Int.emod_nonneg _ (by omega)
  have hk1 : at_ % S < S := Int.emod_lt_of_pos _ (by omega)
  have hx1 : 0 ≤ x ∧ x < 4294967296 := by have := h.x0; have := h.x1; have := h.top; have := h.b0; omega
  obtain ⟨ra, hra⟩ : ∃ ra, ba + p2 (bb + 1) = ra := ⟨_, rfl⟩
  have HXX := Lib.hid fun W => callsIn_wide (n := 0).2 (HX W)
  have HA := Lib.hid (callsIn_wide (n := 0).2 (awake_any w))
  have HH := Lib.hid fun W => callsIn_wide (n := 0).2 (halves_yes ba bb W h.b0 h.b1 (by simp [halvesB, h.bok]; have := h.bits1; omega))
  rw [hra] at HH
  have HV := Lib.hid h
  have HRA := Lib.hid hra
  have hb0 := h.b0
  have hb1 := h.b1
  have hr0 : 0 ≤ ra := by have := p2_pos (bb + 1); omega
  have hr1 : ra < 4294967296 := by have := h.r1; omega
  have HX0 := Lib.hid hx
  have HS := Lib.hid hS
  have HC := Lib.hid hc
  have hbit0 := h.bits0
  have hbit1 := h.bits1
  clear HX h hra hx hS hc hp hpu
  refine callsIn_of_wp Try.func6 rfl trivial ?_
  simp only [Try.ntmps6, List.size_toArray, List.length_cons, List.length_nil, Nat.reduceAdd, Nat.reduceSub, Array.replicate_succ, Array.replicate_zero, List.push_toArray, List.append_toArray, List.nil_append, List.cons_append]
  gi_wp2_with fail
  refine ⟨trivial, rfl, ?_⟩
  refine HA.out.mono ?_
  rintro e w1 ⟨rfl, hb⟩
  have HB1 := Lib.hid hb
  clear hb HA
  gi_wp2_with fail
  refine ⟨trivial, rfl, ?_⟩
  refine (HXX.out _).mono ?_
  rintro e w2 ⟨rfl, hb⟩
  have HB2 := Lib.hid (HB1.out.trans (hb.mono HB1.out.size))
  have n2 : (w2.alloc (cs2 (ba, bb))).heap[w2.heap.size]? = some (cs2 (ba, bb)) := World.alloc_heap_new w2 _
  clear hb
  gi_wp2_with fail
  refine ⟨trivial, rfl, ?_⟩
  refine (HH.out _).mono ?_
  rintro e w3 ⟨rfl, hb⟩
  have n3 : w3.heap[w2.heap.size]? = some (cs2 (ba, bb)) := (hb.block _ (by simp)).trans n2
  have HB2' := HB2.out.alloc HB2.out.size (.cells #[.int .u32 ba, .int .i64 bb] 32)
  have HB3 := Lib.hid (HB2'.trans (hb.mono HB2'.size))
  have hl7 := (Array.getElem?_eq_some_iff.1 n3).1
  have HN3 := Lib.hid n3
  clear hb n2 n3 HB2'
  gi_wp2_with fail
  obtain ⟨W0, hW0⟩ : ∃ W0, (w3.alloc (.cells #[.int .u32 ba, .int .i64 (bb + 1)] 32)).alloc (.cells #[.int .u32 ra, .int .i64 (bb + 1)] 32) = W0 := ⟨_, rfl⟩
  have hW2 : allocs w3 [cs2 (ba, bb + 1), cs2 (ra, bb + 1)] = W0 := hW0
  have hsz : W0.heap.size = w3.heap.size + 1 + 1 := hW2 ▸ allocs_size _ w3
  have g8 : W0.heap[w3.heap.size]? = some (cs2 (ba, bb + 1)) := hW2 ▸ allocs_at _ w3 0 _ rfl
  have g9 : W0.heap[w3.heap.size + 1]? = some (cs2 (ra, bb + 1)) := hW2 ▸ allocs_at _ w3 1 _ rfl
  have hW3 : Below w3.heap.size w3 W0 := hW2 ▸ allocs_below _ w3
  have g7 : W0.heap[w2.heap.size]? = some (cs2 (ba, bb)) := (hW3.block _ hl7).trans HN3.out
  have HB0 := Lib.hid (HB3.out.trans (hW3.mono HB3.out.size))
  have hT0 : Tb (w3.heap.size + 1 + 1) W0 (W0.alloc (.cells #[.pointer none, .int .i64 0] 27)) (w3.heap.size + 1 + 1) .e := by
    have := tb_new W0
    rwa [hsz] at this
  have HCE := Lib.hid (fun (W : World) (T : Tr) (h : Tb (w3.heap.size + 1 + 1) W0 W (w3.heap.size + 1 + 1) T) =>
    (⟨⟨(cells_2 ((h.bel.block _ (by omega)).trans g7)).1, (cells_2 ((h.bel.block _ (by omega)).trans g7)).2.1⟩, ⟨(cells_2 ((h.bel.block _ (by omega)).trans g8)).1, (cells_2 ((h.bel.block _ (by omega)).trans g8)).2.1⟩, (cells_2 ((h.bel.block _ (by omega)).trans g9)).1, (cells_2 ((h.bel.block _ (by omega)).trans g9)).2.1⟩ :
      (W.cell? ⟨w2.heap.size, 0, none⟩ = some (.int .u32 ba) ∧ W.cell? ⟨w2.heap.size, 1, none⟩ = some (.int .i64 bb)) ∧ (W.cell? ⟨w3.heap.size, 0, none⟩ = some (.int .u32 ba) ∧ W.cell? ⟨w3.heap.size, 1, none⟩ = some (.int .i64 (bb + 1))) ∧
        W.cell? ⟨w3.heap.size + 1, 0, none⟩ = some (.int .u32 ra) ∧ W.cell? ⟨w3.heap.size + 1, 1, none⟩ = some (.int .i64 (bb + 1))))
  rw [hW0]
  obtain ⟨w4, hw4⟩ : ∃ w4, W0.alloc (.cells #[.pointer none, .int .i64 0] 27) = w4 := ⟨_, rfl⟩
  rw [hw4] at hT0 ⊢
  have H4 := Lib.hid hT0
  have HS0 := Lib.hid hsz
  clear hW0 hW2 hW3 g7 g8 g9 hw4 hT0 hsz
  generalize w3.heap.size = N8 at *
  generalize w2.heap.size = N7 at *
  have HP1 := Lib.hid (callsIn_wide (n := 0).2 (put_any ba (bb + 1) (N8 + 1 + 1) .e w4 H4.out.td hb0 hb1 (by simp [ent_e])))
  rw [HV.out.put1] at HP1
  refine ⟨trivial, rfl, ?_⟩
  refine HP1.out.mono ?_
  rintro e w5 ⟨rfl, hr⟩
  obtain ⟨T1, h5, e1⟩ := H4.out.put hr
  rw [HV.out.put1, if_pos rfl, ent_e] at e1
  have H5 := Lib.hid h5
  obtain ⟨_, _, c0, c1⟩ := HCE.out w5 _ h5
  have HP2 := Lib.hid (callsIn_wide (n := 0).2 (put_any ra (bb + 1) (N8 + 1 + 1) T1 w5 h5.td hr0 hr1 (by rw [e1.length_eq]; simp)))
  have p2 : putC T1 ra (bb + 1) = 0 := by rw [← HRA.out]; exact HV.out.put2 e1
  rw [p2] at HP2
  have HZ2 := Lib.hid p2
  have E1 := Lib.hid e1
  clear hr h5 e1 HP1 p2
  gi_wp2_with fail
  refine ⟨trivial, rfl, ?_⟩
  refine HP2.out.mono ?_
  rintro e w6 ⟨rfl, hr⟩
  obtain ⟨T2, h6, e2⟩ := H5.out.put hr
  rw [HZ2.out, if_pos rfl, ← HRA.out] at e2
  have E2 := Lib.hid (HV.out.perm E1.out e2)
  have H6 := Lib.hid h6
  obtain ⟨⟨k0, k1⟩, _, _⟩ := HCE.out w6 _ h6
  clear hr h6 e2 c0 c1 HP2
  -- the place
  have RO1 := Lib.hid (fun (d : Nat) (os : Array Obj) => CallsIn.regrown_of (callsIn_wide (n := 0).2 (size_eq ba bb S (Sort.grow (redrawn w6 d) os) hb0 hb1 (by unfold sizeOf; rw [if_pos HV.out.bok]; exact HS.out.symm))))
  have RO2 := Lib.hid (fun (d : Nat) (os : Array Obj) => CallsIn.regrown_of (callsIn_wide (n := 0).2 (by
    have := at_yes ba bb (at_ % S) (Sort.grow (redrawn w6 d) os) hb0 hb1 hk0 (by unfold sizeOf; rw [if_pos HV.out.bok, ← HS.out]; exact hk1)
    rwa [← HX0.out] at this)))
  have r0 := cell_regrown k0
  have r1 := cell_regrown k1
  have hSp : 0 < S := by omega
  have hS2 : S ≤ 4294967296 := by have := p2_le bb hbit0; have := HS.out; omega
  have hwf : ∀ f, Fence.wide.fn f = True := fun _ => eq_true trivial
  clear k0 k1
  gi_upto_region 10 with fail
  refine wpIn_region_quiet_below rfl (by kernel_rfl) (by kernel_rfl) ?_
  repeat (gi_big_quiet_step ((refine ⟨rfl, ?_⟩; first | (gi_at_call 24; with_reducible exact RO1.out _ _) | (gi_at_call 23; with_reducible exact RO2.out _ _))))
  refine wpQuietIn_nil ?_
  rintro _ ⟨rg, rfl⟩
  obtain ⟨w7, hw7⟩ : ∃ w7, Sort.grow (redrawn w6 rg.d) rg.os = w7 := ⟨_, rfl⟩
  have hb7 := below_regrown w6 rg.d rg.os
  rw [hw7] at hb7 ⊢
  have H7 := Lib.hid (H6.out.below hb7)
  have HLG := Lib.hid (callsIn_wide (n := 0).2 (longest_any x (N8 + 1 + 1) T2 w7 H7.out.td hx1.1 hx1.2))
  obtain ⟨e1, e2⟩ := HV.out.best (T := T2) E2.out
  rw [e1, e2] at HLG
  have HHS := Lib.hid fun W => callsIn_wide (n := 0).2 (has_eq ra (bb + 1) x q W hr0 hr1 hx1.1 hx1.2 (by rw [← HRA.out]; exact HV.out.has))
  rw [HRA.out] at HLG
  clear hw7 hb7 e1 e2 r0 r1 RO1 RO2 hwf hk0 hk1
  have hcx := HC.out
  cases q
  · simp only [Bool.false_eq_true, if_false, bv] at HLG
    gi_wp2_with fail
    refine ⟨trivial, rfl, ?_⟩
    refine HLG.out.mono ?_
    rintro e w8 ⟨rfl, hb⟩
    have H8 := Lib.hid (H7.out.below hb)
    obtain ⟨⟨k0, k1⟩, ⟨k2, k3⟩, k4, k5⟩ := HCE.out w8 _ H8.out
    have hs8 : N8 + 1 + 1 < w8.heap.size := H8.out.td.plt
    have hs9 : N8 < w8.heap.size := by omega
    have hs10 : N8 + 1 < w8.heap.size := by omega
    clear hb
    gi_wp2_with fail
    obtain ⟨wA, hwA⟩ : ∃ wA, (w8.alloc (.cells #[.int .u32 ba, .int .i64 (bb + 1)] 32)).alloc (.cells #[.int .u32 ba, .int .i64 (bb + 1)] 32) = wA := ⟨_, rfl⟩
    have hwB : allocs w8 [cs2 (ba, bb + 1), cs2 (ba, bb + 1)] = wA := hwA
    have hbA : Below w8.heap.size w8 wA := hwB ▸ allocs_below _ w8
    have a14 : wA.heap[w8.heap.size]? = some (cs2 (ba, bb + 1)) := hwB ▸ allocs_at _ w8 0 _ rfl
    have a16 : wA.heap[w8.heap.size + 1]? = some (cs2 (ba, bb + 1)) := hwB ▸ allocs_at _ w8 1 _ rfl
    have hszA : wA.heap.size = w8.heap.size + 2 := hwB ▸ allocs_size _ w8
    have HA8 := Lib.hid (H8.out.below hbA)
    rw [hwA]
    clear hwA hwB hbA k0 k1 k2 k3 k4 k5
    refine ⟨trivial, rfl, ?_⟩
    refine (HHS.out _).mono ?_
    rintro e w9 ⟨rfl, hb⟩
    have H9 := Lib.hid (HA8.out.below hb)
    have n14 := (hb.block _ (by omega)).trans a14
    have n16 := (hb.block _ (by omega)).trans a16
    have hs14 := (Array.getElem?_eq_some_iff.1 n16).1
    have hs14' : w8.heap.size < w9.heap.size := by omega
    have hs15 : N8 < w9.heap.size := by omega
    have hs16 : N8 + 1 < w9.heap.size := by omega
    have hs17 : N7 < w9.heap.size := by
      have := (HCE.out w9 _ H9.out).1.1
      exact block_lt_of_cell (a := ⟨N7, 0, none⟩) this
    obtain ⟨⟨k0, k1⟩, ⟨k2, k3⟩, k4, k5⟩ := HCE.out w9 _ H9.out
    obtain ⟨j0, j1, _, _⟩ := cells_2 n14
    obtain ⟨i0, i1, g0, g1⟩ := cells_2 n16
    have HN14 := Lib.hid n14
    have HN16 := Lib.hid n16
    clear hb a14 a16 n14 n16 hszA
    generalize w8.heap.size = N14 at *
    gi_upto_region 15 with fail
    gi_region
    gi_wp2_with fail
    obtain ⟨wB, hwB⟩ : ∃ wB, (w9.alloc (.cells #[.int .u32 c, .int .i64 bb] 32)).drew = wB := ⟨_, rfl⟩
    have hbB : Below w9.heap.size w9 wB := hwB ▸ ((Below.refl _ w9).alloc (Nat.le_refl _) _).drew
    have b17 : wB.heap[w9.heap.size]? = some (cs2 (c, bb)) := hwB ▸ World.alloc_heap_new w9 _
    have HB := Lib.hid (H9.out.below hbB)
    have HO1 := Lib.hid (callsIn_wide (n := 0).2 (overlaps_any ba bb (N8 + 1 + 1) T2 wB HB.out.td hb0 hb1))
    rw [HV.out.whole E2.out] at HO1
    rw [hwB]
    clear hwB hbB
    refine ⟨trivial, rfl, ?_⟩
    refine HO1.out.mono ?_
    rintro e w10 ⟨rfl, hb⟩
    have H10 := Lib.hid (HB.out.below hb)
    have n17 := (hb.block _ (Array.getElem?_eq_some_iff.1 b17).1).trans b17
    obtain ⟨z0, z1, _, _⟩ := cells_2 n17
    have HO2 := Lib.hid (callsIn_wide (n := 0).2 (overlaps_any c bb (N8 + 1 + 1) T2 w10 H10.out.td HV.out.c0 HV.out.c1))
    rw [HV.out.beside E2.out] at HO2
    clear hb b17 HO1 n17
    gi_wp2_with fail
    refine ⟨trivial, rfl, ?_⟩
    refine HO2.out.mono ?_
    rintro e w11 ⟨rfl, hb⟩
    have H11 := Lib.hid (H10.out.below hb)
    obtain ⟨⟨x0, x1⟩, _, _⟩ := HCE.out w11 _ H11.out
    have HO3 := Lib.hid (callsIn_wide (n := 0).2 (has9_any ba bb H11.out.td hb0 hb1))
    rw [HV.out.off E2.out] at HO3
    clear hb HO2 z0 z1
    gi_wp2_with fail
    refine ⟨trivial, rfl, ?_⟩
    refine HO3.out.mono ?_
    rintro e w12 ⟨rfl, hb⟩
    have H12 := Lib.hid (H11.out.below hb)
    obtain ⟨⟨y0, y1⟩, _, _⟩ := HCE.out w12 _ H12.out
    have hp3 : putC T2 ba bb = 0 := by simp [putC, HV.out.bok, HV.out.off E2.out]
    have HP3 := Lib.hid (callsIn_wide (n := 0).2 (put_any ba bb (N8 + 1 + 1) T2 w12 H12.out.td hb0 hb1 (by rw [E2.out]; simp)))
    rw [hp3] at HP3
    have HZ3 := Lib.hid hp3
    clear hb HO3 x0 x1 hp3
    gi_wp2_with fail
    refine ⟨trivial, rfl, ?_⟩
    refine HP3.out.mono ?_
    rintro e w13 ⟨rfl, hr⟩
    obtain ⟨T3, h13, e3⟩ := H12.out.put hr
    rw [HZ3.out, if_pos rfl, E2.out] at e3
    have HN := Lib.hid (callsIn_wide (n := 0).2 (len_any h13.td))
    rw [e3.length_eq] at HN
    have HB9 := Lib.hid (HB0.out.trans (h13.bel.mono (by have := HB0.out.size; rw [HS0.out] at this; exact this)))
    clear hr h13 e3 HP3 y0 y1
    gi_wp2_with fail
    refine ⟨trivial, rfl, ?_⟩
    refine HN.out.mono ?_
    rintro e w14 ⟨rfl, rfl⟩
    gi_wp2_with fail
    go_ret
    exact ⟨rfl, HB9.out⟩
  · simp only [if_true, bv] at HLG
    gi_wp2_with fail
    refine ⟨trivial, rfl, ?_⟩
    refine HLG.out.mono ?_
    rintro e w8 ⟨rfl, hb⟩
    have H8 := Lib.hid (H7.out.below hb)
    obtain ⟨⟨k0, k1⟩, ⟨k2, k3⟩, k4, k5⟩ := HCE.out w8 _ H8.out
    have hs8 : N8 + 1 + 1 < w8.heap.size := H8.out.td.plt
    have hs9 : N8 < w8.heap.size := by omega
    have hs10 : N8 + 1 < w8.heap.size := by omega
    clear hb
    gi_wp2_with fail
    obtain ⟨wA, hwA⟩ : ∃ wA, (w8.alloc (.cells #[.int .u32 ra, .int .i64 (bb + 1)] 32)).alloc (.cells #[.int .u32 ba, .int .i64 (bb + 1)] 32) = wA := ⟨_, rfl⟩
    have hwB : allocs w8 [cs2 (ra, bb + 1), cs2 (ba, bb + 1)] = wA := hwA
    have hbA : Below w8.heap.size w8 wA := hwB ▸ allocs_below _ w8
    have a14 : wA.heap[w8.heap.size]? = some (cs2 (ra, bb + 1)) := hwB ▸ allocs_at _ w8 0 _ rfl
    have a16 : wA.heap[w8.heap.size + 1]? = some (cs2 (ba, bb + 1)) := hwB ▸ allocs_at _ w8 1 _ rfl
    have hszA : wA.heap.size = w8.heap.size + 2 := hwB ▸ allocs_size _ w8
    have HA8 := Lib.hid (H8.out.below hbA)
    rw [hwA]
    clear hwA hwB hbA k0 k1 k2 k3 k4 k5
    refine ⟨trivial, rfl, ?_⟩
    refine (HHS.out _).mono ?_
    rintro e w9 ⟨rfl, hb⟩
    have H9 := Lib.hid (HA8.out.below hb)
    have n14 := (hb.block _ (by omega)).trans a14
    have n16 := (hb.block _ (by omega)).trans a16
    have hs14 := (Array.getElem?_eq_some_iff.1 n16).1
    have hs14' : w8.heap.size < w9.heap.size := by omega
    have hs15 : N8 < w9.heap.size := by omega
    have hs16 : N8 + 1 < w9.heap.size := by omega
    have hs17 : N7 < w9.heap.size := by
      have := (HCE.out w9 _ H9.out).1.1
      exact block_lt_of_cell (a := ⟨N7, 0, none⟩) this
    obtain ⟨⟨k0, k1⟩, ⟨k2, k3⟩, k4, k5⟩ := HCE.out w9 _ H9.out
    obtain ⟨j0, j1, _, _⟩ := cells_2 n14
    obtain ⟨i0, i1, g0, g1⟩ := cells_2 n16
    have HN14 := Lib.hid n14
    have HN16 := Lib.hid n16
    have HFP := Lib.hid H8.out.td.lt
    have hgt := H8.out.td.plt
    clear hb a14 a16 n14 n16 hszA
    generalize w8.heap.size = N14 at *
    gi_upto_region 15 with fail
    obtain ⟨wC, hwC⟩ : ∃ wC, (w9.setCell ⟨N14 + 1, 0, none⟩ (.int .u32 ra)).setCell ⟨N14 + 1, 1, none⟩ (.int .i64 (bb + 1)) = wC := ⟨_, rfl⟩
    have c16 : wC.heap[N14 + 1]? = some (cs2 (ra, bb + 1)) := hwC ▸ set_2 (ra, bb + 1) HN16.out
    have cOther : ∀ d, d ≠ N14 + 1 → wC.heap[d]? = w9.heap[d]? := fun d hd => by rw [← hwC, heap_setCell_other _ _ _ _ hd, heap_setCell_other _ _ _ _ hd]
    have hszC : wC.heap.size = w9.heap.size := by rw [← hwC]; simp [World.setCell]
    have HCt := Lib.hid (⟨H9.out.td.keep (fun d hd => cOther d (by have := HFP.out d hd; omega)), hwC ▸ ((H9.out.bel.setCell (p := ⟨N14 + 1, 0, none⟩) (by show N8 + 1 + 1 ≤ N14 + 1; omega) _).setCell (p := ⟨N14 + 1, 1, none⟩) (by show N8 + 1 + 1 ≤ N14 + 1; omega) _), H9.out.own, H9.out.hB⟩ : Tb (N8 + 1 + 1) W0 wC (N8 + 1 + 1) T2)
    have c14 : wC.heap[N14]? = some (cs2 (ra, bb + 1)) := (cOther _ (by omega)).trans HN14.out
    rw [hwC]
    clear k0 k1 k2 k3 k4 k5 j0 j1 i0 i1 g0 g1 cOther
    rw [← hszC] at hs14 hs14' hs15 hs16 hs17
    obtain ⟨⟨k0, k1⟩, ⟨k2, k3⟩, k4, k5⟩ := HCE.out wC _ HCt.out
    obtain ⟨j0, j1, _, _⟩ := cells_2 c14
    obtain ⟨i0, i1, g0, g1⟩ := cells_2 c16
    clear hwC c14 c16 hszC
    gi_region
    gi_wp2_with fail
    obtain ⟨wB, hwB⟩ : ∃ wB, (wC.alloc (.cells #[.int .u32 c, .int .i64 bb] 32)).drew = wB := ⟨_, rfl⟩
    have hbB : Below wC.heap.size wC wB := hwB ▸ ((Below.refl _ wC).alloc (Nat.le_refl _) _).drew
    have b17 : wB.heap[wC.heap.size]? = some (cs2 (c, bb)) := hwB ▸ World.alloc_heap_new wC _
    have HB := Lib.hid (HCt.out.below hbB)
    have HO1 := Lib.hid (callsIn_wide (n := 0).2 (overlaps_any ba bb (N8 + 1 + 1) T2 wB HB.out.td hb0 hb1))
    rw [HV.out.whole E2.out] at HO1
    rw [hwB]
    clear hwB hbB
    refine ⟨trivial, rfl, ?_⟩
    refine HO1.out.mono ?_
    rintro e w10 ⟨rfl, hb⟩
    have H10 := Lib.hid (HB.out.below hb)
    have n17 := (hb.block _ (Array.getElem?_eq_some_iff.1 b17).1).trans b17
    obtain ⟨z0, z1, _, _⟩ := cells_2 n17
    have HO2 := Lib.hid (callsIn_wide (n := 0).2 (overlaps_any c bb (N8 + 1 + 1) T2 w10 H10.out.td HV.out.c0 HV.out.c1))
    rw [HV.out.beside E2.out] at HO2
    clear hb b17 HO1 n17
    gi_wp2_with fail
    refine ⟨trivial, rfl, ?_⟩
    refine HO2.out.mono ?_
    rintro e w11 ⟨rfl, hb⟩
    have H11 := Lib.hid (H10.out.below hb)
    obtain ⟨⟨x0, x1⟩, _, _⟩ := HCE.out w11 _ H11.out
    have HO3 := Lib.hid (callsIn_wide (n := 0).2 (has9_any ba bb H11.out.td hb0 hb1))
    rw [HV.out.off E2.out] at HO3
    clear hb HO2 z0 z1
    gi_wp2_with fail
    refine ⟨trivial, rfl, ?_⟩
    refine HO3.out.mono ?_
    rintro e w12 ⟨rfl, hb⟩
    have H12 := Lib.hid (H11.out.below hb)
    obtain ⟨⟨y0, y1⟩, _, _⟩ := HCE.out w12 _ H12.out
    have hp3 : putC T2 ba bb = 0 := by simp [putC, HV.out.bok, HV.out.off E2.out]
    have HP3 := Lib.hid (callsIn_wide (n := 0).2 (put_any ba bb (N8 + 1 + 1) T2 w12 H12.out.td hb0 hb1 (by rw [E2.out]; simp)))
    rw [hp3] at HP3
    have HZ3 := Lib.hid hp3
    clear hb HO3 x0 x1 hp3
    gi_wp2_with fail
    refine ⟨trivial, rfl, ?_⟩
    refine HP3.out.mono ?_
    rintro e w13 ⟨rfl, hr⟩
    obtain ⟨T3, h13, e3⟩ := H12.out.put hr
    rw [HZ3.out, if_pos rfl, E2.out] at e3
    have HN := Lib.hid (callsIn_wide (n := 0).2 (len_any h13.td))
    rw [e3.length_eq] at HN
    have HB9 := Lib.hid (HB0.out.trans (h13.bel.mono (by have := HB0.out.size; rw [HS0.out] at this; exact this)))
    clear hr h13 e3 HP3 y0 y1
    gi_wp2_with fail
    refine ⟨trivial, rfl, ?_⟩
    refine HN.out.mono ?_
    rintro e w14 ⟨rfl, rfl⟩
    gi_wp2_with fail
    go_ret
    exact ⟨rfl, HB9.out⟩
theorem trieHalves_walk (a0 a1 a2 : Int) (w : World) (h00 : 0 ≤ a0) (h01 : a0 < 4294967296) (h10 : 0 ≤ a1) (h11 : a1 < 256) (h20 : 0 ≤ a2) (h21 : a2 < 65536) :
    Calls Try.prog 6 #[.int .u32 a0, .int .u8 a1, .int .u16 a2] w fun e w' => e = .returned (.bool true) ∧ Below w.heap.size w w' := by
  obtain ⟨bb, hbb⟩ : ∃ bb, 20 + a1 % 13 = bb := ⟨_, rfl⟩
  have b1 := blk_ok a0 (20 + a1 % 13) h00 (by omega) (by omega)
  have HX := fun W => block_any a0 a1 W h00 h01 h10 h11
  rw [hbb] at b1 HX
  by_cases h32 : bb = 32
  · exact callsIn_wide.1 (halves_32 a0 a1 a2 _ bb w b1.2.1 (by omega) h32 HX)
  · have hp := p2_pos bb
    have hk0 : 0 ≤ a2 % p2 bb := Int.emod_nonneg _ (by omega)
    have hk1 : a2 % p2 bb < p2 bb := Int.emod_lt_of_pos _ hp
    have hpe : (2 : Int) ^ (32 - bb).toNat = p2 bb := rfl
    have hpm : p2 bb % 4294967296 = p2 bb := by
      have h1 : p2 bb ≤ p2 20 := Int.le_of_dvd (p2_pos 20) (p2_dvd (by omega))
      have h2 : p2 20 = 4096 := by decide
      omega
    have hpl : p2 bb < 4294967296 := by omega
    exact callsIn_wide.1 (halves_core a0 a1 a2 (a0 - a0 % p2 bb) bb (a0 - a0 % p2 bb + a2 % p2 bb) _ (p2 bb) (hasB (a0 - a0 % p2 bb + p2 (bb + 1)) (bb + 1) (a0 - a0 % p2 bb + a2 % p2 bb)) w
      ⟨b1.2.1, by omega, by omega, by omega, b1.1, by omega, by omega, (xor_lt _ (p2 bb) b1.2.1 (by omega) (by omega) hpl).1, (xor_lt _ (p2 bb) b1.2.1 (by omega) (by omega) hpl).2, xor_ne _ (p2 bb) b1.2.1 (by omega) hp hpl, rfl⟩ rfl h20 h21 rfl
      (by rw [hpe, hpm]) HX)
end Go.Proofs.Ytbfkpapankgndaa
