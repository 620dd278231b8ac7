/-
  TrieTwo, walked. Conditions: the bounds of its parameters' types.
-/
import Derived.Test.YtbfkpapankgndaaEq32
import Derived.Test.YtbfkpapankgndaaMc
namespace Go.Proofs.Ytbfkpapankgndaa
open Go.RowKit

theorem blk_ok (a b : Int) (ha0 : 0 ≤ a) (h0 : 0 ≤ b) (h1 : b ≤ 32) : okB (a - a % p2 b) b = true ∧ 0 ≤ a - a % p2 b ∧ a - a % p2 b ≤ a := by
  have hp := p2_pos b
  have h2 := Int.emod_nonneg a (by omega : p2 b ≠ 0)
  have h3 : a % p2 b ≤ a := by
    have := Int.mul_ediv_add_emod a (p2 b)
    have h4 : 0 ≤ p2 b * (a / p2 b) := Int.mul_nonneg (by omega) (Int.ediv_nonneg ha0 (by omega))
    omega
  refine ⟨ok_iff.2 ⟨h0, h1, ?_⟩, by omega, by omega⟩
  rw [Int.sub_emod, Int.emod_emod, Int.sub_self, Int.zero_emod]
theorem xor_lt (a b : Int) (h1 : 0 ≤ a) (h2 : a < 4294967296) (h3 : 0 ≤ b) (h4 : b < 4294967296) : 0 ≤ bits .xor .u32 a b ∧ bits .xor .u32 a b < 4294967296 := by
  rw [u32_xor a b h1 h2 h3 h4]
  have := Nat.xor_lt_two_pow (n := 32) (show a.toNat < 2 ^ 32 by omega) (show b.toNat < 2 ^ 32 by omega)
  omega
theorem any_one {T : Tr} {y : Int × Int} {x b : Int} (h : (ent 32 0 T).Perm [y]) : anyOv T x b = overB y.1 y.2 x b := by
  have e : ent 32 0 T = [y] := ent_eq h (by simp)
  unfold anyOv ovl
  rw [e]
  cases hv : overB y.1 y.2 x b <;> simp [hv]
theorem any_nil {x b : Int} : anyOv .e x b = false := by simp [anyOv, ovl_e]
theorem over_self {a b : Int} (h : okB a b = true) : overB a b a b = true := by
  refine over_iff.2 (.inl (within_iff.2 ⟨h, h, ?_, Int.le_refl _⟩))
  have := (ok_out h).2.2
  omega

/-- The two prefixes' own variables. -/
def Cw (N : Nat) (xa xb ya yb : Int) (W : World) : Prop := W.cell? ⟨N, 0, none⟩ = some (.int .u32 xa) ∧ W.cell? ⟨N, 1, none⟩ = some (.int .i64 xb) ∧ W.cell? ⟨N + 1, 0, none⟩ = some (.int .u32 ya) ∧ W.cell? ⟨N + 1, 1, none⟩ = some (.int .i64 yb)

structure Wp (N : Nat) (xa xb ya yb : Int) where
  W : World
  h : Cw N xa xb ya yb W

set_option maxRecDepth 100000 in
set_option maxHeartbeats 2000000 in
theorem two_core (a0 a1 a2 a3 xa xb ya yb : Int) (w : World) (hx0 : 0 ≤ xa) (hx1 : xa < 4294967296) (hy0 : 0 ≤ ya) (hy1 : ya < 4294967296) (hxo : okB xa xb = true) (hyo : okB ya yb = true) (h20 : 0 ≤ a2) (h21 : a2 < 4294967296)
    (HX : ∀ W, Calls Try.prog 21 #[.int .u32 a0, .int .u8 a1] W fun e w' => e = .returned (.agg #[.int .u32 xa, .int .i64 xb]) ∧ Below W.heap.size W w')
    (HY : ∀ W, Calls Try.prog 21 #[.int .u32 (bits .xor .u32 a0 (a2 % 512)), .int .u8 a3] W fun e w' => e = .returned (.agg #[.int .u32 ya, .int .i64 yb]) ∧ Below W.heap.size W w') :
    CallsIn Fence.wide 0 Try.prog 7 #[.int .u32 a0, .int .u8 a1, .int .u32 a2, .int .u8 a3] w fun e w' => e = .returned (.bool true) ∧ Below w.heap.size w w' := by
  have HXX := Lib.hid fun W => callsIn_wide (n := 0).2 (HX W)
  have HYY := Lib.hid fun W => callsIn_wide (n := 0).2 (HY W)
  have HA := Lib.hid (callsIn_wide (n := 0).2 (awake_any w))
  obtain ⟨q, hq⟩ : ∃ q, decide ((xa, xb) = (ya, yb)) = q := ⟨_, rfl⟩
  obtain ⟨v1, hv1⟩ : ∃ v, overB xa xb ya yb = v := ⟨_, rfl⟩
  have HV1 := Lib.hid hv1
  have HQ := Lib.hid hq
  have HXO := Lib.hid hxo
  have HYO := Lib.hid hyo
  have eq1 := run_eql32 xa xb ya yb
  have ne1 := run_neq32 xa xb ya yb
  rw [hq] at eq1 ne1
  have eg := fun op x y W => run_eqGuard_agg (P := Try.prog) (w := W) op 32 x y #[.int .u32 xa, .int .i64 xb] #[.int .u32 ya, .int .i64 yb] (by kernel_rfl)
  clear HX HY hq hv1 hxo hyo
  refine callsIn_of_wp Try.func7 rfl trivial ?_
  simp only [Try.ntmps7, List.size_toArray, List.length_cons, List.length_nil, Nat.reduceAdd, Nat.reduceSub, Array.replicate_succ, Array.replicate_zero, List.push_toArray, List.append_toArray, List.nil_append, List.cons_append]
  gi_wp2_with fail
  refine ⟨trivial, rfl, ?_⟩
  refine HA.out.mono ?_
  rintro e w1 ⟨rfl, hb⟩
  have HB1 := Lib.hid hb
  clear hb HA
  gi_wp2_with fail
  refine ⟨trivial, rfl, ?_⟩
  refine (HXX.out _).mono ?_
  rintro e w2 ⟨rfl, hb⟩
  have HB2 := Lib.hid (HB1.out.trans (hb.mono HB1.out.size))
  clear hb
  gi_wp2_with fail
  refine ⟨trivial, rfl, ?_⟩
  refine (HYY.out _).mono ?_
  rintro e w3 ⟨rfl, hb⟩
  have HB3 := Lib.hid (HB2.out.trans (hb.mono HB2.out.size))
  clear hb
  gi_wp2_with fail
  obtain ⟨W0, hW0⟩ : ∃ W0, (w3.alloc (.cells #[.int .u32 xa, .int .i64 xb] 32)).alloc (.cells #[.int .u32 ya, .int .i64 yb] 32) = W0 := ⟨_, rfl⟩
  have hW2 : allocs w3 [cs2 (xa, xb), cs2 (ya, yb)] = W0 := hW0
  have hsz : W0.heap.size = w3.heap.size + 1 + 1 := hW2 ▸ allocs_size _ w3
  have g9 : W0.heap[w3.heap.size]? = some (cs2 (xa, xb)) := hW2 ▸ allocs_at _ w3 0 _ rfl
  have g10 : W0.heap[w3.heap.size + 1]? = some (cs2 (ya, yb)) := hW2 ▸ allocs_at _ w3 1 _ rfl
  have HB0 := Lib.hid (HB3.out.trans ((hW2 ▸ allocs_below _ w3 : Below w3.heap.size w3 W0).mono HB3.out.size))
  have hT0 : Tb (w3.heap.size + 1 + 1) W0 (W0.alloc (.cells #[.pointer none, .int .i64 0] 27)) (w3.heap.size + 1 + 1) .e := by
    have := tb_new W0
    rwa [hsz] at this
  have HC := Lib.hid (fun (W : World) (T : Tr) (h : Tb (w3.heap.size + 1 + 1) W0 W (w3.heap.size + 1 + 1) T) =>
    (⟨(cells_2 ((h.bel.block _ (by omega)).trans g9)).1, (cells_2 ((h.bel.block _ (by omega)).trans g9)).2.1, (cells_2 ((h.bel.block _ (by omega)).trans g10)).1, (cells_2 ((h.bel.block _ (by omega)).trans g10)).2.1⟩ :
      W.cell? ⟨w3.heap.size, 0, none⟩ = some (.int .u32 xa) ∧ W.cell? ⟨w3.heap.size, 1, none⟩ = some (.int .i64 xb) ∧ W.cell? ⟨w3.heap.size + 1, 0, none⟩ = some (.int .u32 ya) ∧ W.cell? ⟨w3.heap.size + 1, 1, none⟩ = some (.int .i64 yb)))
  rw [hW0]
  obtain ⟨w4, hw4⟩ : ∃ w4, W0.alloc (.cells #[.pointer none, .int .i64 0] 27) = w4 := ⟨_, rfl⟩
  rw [hw4] at hT0 ⊢
  have H4 := Lib.hid hT0
  have HS := Lib.hid hsz
  clear hW0 hW2 g9 g10 hw4 hT0 hsz
  generalize w3.heap.size = N9 at *
  have HOV := Lib.hid (callsIn_wide (n := 0).2 (overlaps_any ya yb (N9 + 1 + 1) .e w4 H4.out.td hy0 hy1))
  rw [any_nil] at HOV
  refine ⟨trivial, rfl, ?_⟩
  refine HOV.out.mono ?_
  rintro e w5 ⟨rfl, hb⟩
  have H5 := Lib.hid (H4.out.below hb)
  obtain ⟨c0, c1, c2, c3⟩ := HC.out w5 _ H5.out
  have HP1 := Lib.hid (callsIn_wide (n := 0).2 (put_any xa xb (N9 + 1 + 1) .e w5 H5.out.td hx0 hx1 (by simp [ent_e])))
  have p1 : putC .e xa xb = 0 := by simp [putC, HXO.out, isIn, ent_e]
  rw [p1] at HP1
  have HZ1 := Lib.hid p1
  clear hb HOV p1
  gi_wp2_with fail
  refine ⟨trivial, rfl, ?_⟩
  refine HP1.out.mono ?_
  rintro e w6 ⟨rfl, hr⟩
  obtain ⟨T1, h6, e1⟩ := H5.out.put hr
  rw [HZ1.out, if_pos rfl, ent_e] at e1
  have H6 := Lib.hid h6
  obtain ⟨c0', c1', c2', c3'⟩ := HC.out w6 _ h6
  have HP2 := Lib.hid (callsIn_wide (n := 0).2 (put_any xa xb (N9 + 1 + 1) T1 w6 h6.td hx0 hx1 (by rw [e1.length_eq]; simp)))
  have p2 : putC T1 xa xb = 6 := by
    have : isIn T1 xa xb = true := by rw [isIn_perm e1]; simp
    simp [putC, HXO.out, this]
  rw [p2] at HP2
  have HZ2 := Lib.hid p2
  have E1 := Lib.hid e1
  clear hr h6 e1 c0 c1 c2 c3 HP1 p2
  gi_wp2_with fail
  refine ⟨trivial, rfl, ?_⟩
  refine HP2.out.mono ?_
  rintro e w7 ⟨rfl, hr⟩
  obtain ⟨T2, h7, e2⟩ := H6.out.put hr
  rw [HZ2.out, if_neg (by decide)] at e2
  have E2 := Lib.hid (e2.trans E1.out)
  have H7 := Lib.hid h7
  obtain ⟨k0, k1, k2, k3⟩ := HC.out w7 _ h7
  clear hr h7 e2 c0' c1' c2' c3' HP2
  gi_upto_region 7 with fail
  have o1 : anyOv T2 ya yb = v1 := by rw [any_one E2.out]; exact HV1.out
  have o2 : anyOv T2 xa xb = true := by rw [any_one E2.out]; exact over_self HXO.out
  have o3 : isIn T2 ya yb = q := by
    rw [isIn_perm E2.out, ← HQ.out, decide_eq_decide, List.mem_singleton]
    exact eq_comm
  have RO1 := Lib.hid (fun (d : Nat) (os : Array Obj) => CallsIn.regrown_of (callsIn_wide (n := 0).2 (by have := overlaps_any ya yb _ T2 (Sort.grow (redrawn w7 d) os) (H7.out.td.below (below_regrown w7 d os)) hy0 hy1; rwa [o1] at this)))
  have RO4 := Lib.hid (fun (d : Nat) (os : Array Obj) => CallsIn.regrown_of (callsIn_wide (n := 0).2 (by have := overlaps_any xa xb _ T2 (Sort.grow (redrawn w7 d) os) (H7.out.td.below (below_regrown w7 d os)) hx0 hx1; rwa [o2] at this)))
  have RO3 := Lib.hid (fun (d : Nat) (os : Array Obj) => CallsIn.regrown_of (callsIn_wide (n := 0).2 (by have := has9_any ya yb (H7.out.td.below (below_regrown w7 d os)) hy0 hy1; rwa [o3] at this)))
  have RO2 := Lib.hid (fun (d : Nat) (os : Array Obj) => CallsIn.regrown_of (callsIn_wide (n := 0).2 (overlap_eq xa xb ya yb v1 (Sort.grow (redrawn w7 d) os) hx0 hx1 hy0 hy1 HV1.out)))
  have O3 := Lib.hid o3
  have r0 := cell_regrown k0
  have r1 := cell_regrown k1
  have r2 := cell_regrown k2
  have r3 := cell_regrown k3
  clear k0 k1 k2 k3 o1 o2 o3
  have hwf : ∀ f, Fence.wide.fn f = True := fun _ => eq_true trivial
  cases v1 <;> cases q
  · refine wpIn_region_quiet_below rfl (by kernel_rfl) (by kernel_rfl) ?_
    repeat (gi_big_quiet_step ((refine ⟨rfl, ?_⟩; first | (gi_at_call 17; first | (with_reducible exact RO1.out _ _) | (with_reducible exact RO4.out _ _)) | (gi_at_call 15; with_reducible exact RO2.out _ _) | (gi_at_call 10; with_reducible exact RO3.out _ _))))
    refine wpQuietIn_nil ?_
    rintro _ ⟨rg, rfl⟩
    have hb := below_regrown w7 rg.d rg.os
    obtain ⟨w8, hw8⟩ : ∃ w8, Sort.grow (redrawn w7 rg.d) rg.os = w8 := ⟨_, rfl⟩
    rw [hw8] at hb ⊢
    have H8 := Lib.hid (H7.out.below hb)
    have hc8 := HC.out w8 _ H8.out
    have z0 : ∀ p : Wp N9 xa xb ya yb, p.W.cell? ⟨N9, 0, none⟩ = some (.int .u32 xa) := fun p => p.h.1
    have z1 : ∀ p : Wp N9 xa xb ya yb, p.W.cell? ⟨N9, 1, none⟩ = some (.int .i64 xb) := fun p => p.h.2.1
    have z2 : ∀ p : Wp N9 xa xb ya yb, p.W.cell? ⟨N9 + 1, 0, none⟩ = some (.int .u32 ya) := fun p => p.h.2.2.1
    have z3 : ∀ p : Wp N9 xa xb ya yb, p.W.cell? ⟨N9 + 1, 1, none⟩ = some (.int .i64 yb) := fun p => p.h.2.2.2
    have hpc : putC T2 ya yb = 0 := by simp [putC, HYO.out, O3.out]
    have HPC := Lib.hid hpc
    have HP := Lib.hid (callsIn_wide (n := 0).2 (put_any ya yb (N9 + 1 + 1) T2 w8.drew (H8.out.below (Below.refl _ w8).drew).td hy0 hy1 (by rw [E2.out.length_eq]; simp)))
    rw [hpc] at HP
    obtain ⟨y0, y1, y2, y3⟩ := hc8
    have HD := Lib.hid (HC.out w8.drew _ (H8.out.below (Below.refl _ w8).drew))
    have : Nonempty (Wp N9 xa xb ya yb) := ⟨⟨w8.drew, HD.out⟩⟩
    clear hw8 hb r0 r1 r2 r3 RO1 RO2 RO3 RO4 hpc
    gi_upto_region 9 with fail
    refine wpIn_region_mc (fun W => ∃ p : Wp N9 xa xb ya yb, W = p.W) (fun i => i == 2) rfl (by kernel_rfl) ?_
    refine atC_pure ⟨⟨w8.drew, HD.out⟩, rfl⟩ rfl (by kernel_rfl) (fun _ _ _ d _ h => by cases d <;> exact h) [4, 5, 6] 6 _ _ (by kernel_rfl) ?_
    simp only [opsAt, List.getElem?_toArray, List.getElem?_cons_zero, List.getElem?_cons_succ, Option.toList_some, List.cons_append, List.nil_append]
    repeat (gi_big_quiet_step (fail))
    refine wpQuietIn_nil ?_
    refine atC_quiet (by kernel_rfl) [0, 1] 4 _ _ (by kernel_rfl) ?_
    simp only [opsAt, List.getElem?_toArray, List.getElem?_cons_zero, List.getElem?_cons_succ, Option.toList_some, List.cons_append, List.nil_append]
    repeat (gi_big_quiet_step (fail))
    refine wpQuietIn_nil ?_
    refine atC_solo 2 3 _ _ _ (by kernel_rfl) ?_
    simp only [opsAt, List.getElem?_toArray, List.getElem?_cons_zero, List.getElem?_cons_succ, Option.toList_some, List.cons_append, List.nil_append]
    gi_wp2_with fail
    refine ⟨rfl, ?_⟩
    refine HP.out.mono ?_
    rintro e w9 ⟨rfl, hr⟩
    obtain ⟨T3, h9, e3⟩ := (H8.out.below (Below.refl _ w8).drew).put hr
    have HB9 := Lib.hid (HB0.out.trans (h9.bel.mono (by have := HB0.out.size; rw [HS.out] at this; exact this)))
    have hc9 := HC.out w9 _ h9
    clear hr h9 e3
    gi_wp2_with fail
    refine ⟨⟨⟨w9, hc9⟩, rfl⟩, ?_⟩
    refine atC_quiet (by kernel_rfl) [3, 7, 8] 0 _ _ (by kernel_rfl) ?_
    simp only [opsAt, List.getElem?_toArray, List.getElem?_cons_zero, List.getElem?_cons_succ, Option.toList_some, List.cons_append, List.nil_append]
    repeat (gi_big_quiet_step (fail))
    refine wpQuietIn_nil ?_
    refine atC_end (by kernel_rfl) ?_
    gi_wp2_with fail
    go_ret
    exact ⟨rfl, HB9.out⟩
  · refine wpIn_region_quiet_below rfl (by kernel_rfl) (by kernel_rfl) ?_
    repeat (gi_big_quiet_step ((refine ⟨rfl, ?_⟩; first | (gi_at_call 17; first | (with_reducible exact RO1.out _ _) | (with_reducible exact RO4.out _ _)) | (gi_at_call 15; with_reducible exact RO2.out _ _) | (gi_at_call 10; with_reducible exact RO3.out _ _))))
    refine wpQuietIn_nil ?_
    rintro _ ⟨rg, rfl⟩
    have hb := below_regrown w7 rg.d rg.os
    obtain ⟨w8, hw8⟩ : ∃ w8, Sort.grow (redrawn w7 rg.d) rg.os = w8 := ⟨_, rfl⟩
    rw [hw8] at hb ⊢
    have H8 := Lib.hid (H7.out.below hb)
    have hc8 := HC.out w8 _ H8.out
    have z0 : ∀ p : Wp N9 xa xb ya yb, p.W.cell? ⟨N9, 0, none⟩ = some (.int .u32 xa) := fun p => p.h.1
    have z1 : ∀ p : Wp N9 xa xb ya yb, p.W.cell? ⟨N9, 1, none⟩ = some (.int .i64 xb) := fun p => p.h.2.1
    have z2 : ∀ p : Wp N9 xa xb ya yb, p.W.cell? ⟨N9 + 1, 0, none⟩ = some (.int .u32 ya) := fun p => p.h.2.2.1
    have z3 : ∀ p : Wp N9 xa xb ya yb, p.W.cell? ⟨N9 + 1, 1, none⟩ = some (.int .i64 yb) := fun p => p.h.2.2.2
    have hpc : putC T2 ya yb = 6 := by simp [putC, HYO.out, O3.out]
    have HPC := Lib.hid hpc
    have HP := Lib.hid (callsIn_wide (n := 0).2 (put_any ya yb (N9 + 1 + 1) T2 w8.drew (H8.out.below (Below.refl _ w8).drew).td hy0 hy1 (by rw [E2.out.length_eq]; simp)))
    rw [hpc] at HP
    obtain ⟨y0, y1, y2, y3⟩ := hc8
    have HD := Lib.hid (HC.out w8.drew _ (H8.out.below (Below.refl _ w8).drew))
    have : Nonempty (Wp N9 xa xb ya yb) := ⟨⟨w8.drew, HD.out⟩⟩
    clear hw8 hb r0 r1 r2 r3 RO1 RO2 RO3 RO4 hpc
    gi_upto_region 9 with fail
    refine wpIn_region_mc (fun W => ∃ p : Wp N9 xa xb ya yb, W = p.W) (fun i => i == 2) rfl (by kernel_rfl) ?_
    refine atC_pure ⟨⟨w8.drew, HD.out⟩, rfl⟩ rfl (by kernel_rfl) (fun _ _ _ d _ h => by cases d <;> exact h) [4, 5, 6] 6 _ _ (by kernel_rfl) ?_
    simp only [opsAt, List.getElem?_toArray, List.getElem?_cons_zero, List.getElem?_cons_succ, Option.toList_some, List.cons_append, List.nil_append]
    repeat (gi_big_quiet_step (fail))
    refine wpQuietIn_nil ?_
    refine atC_quiet (by kernel_rfl) [0, 1] 4 _ _ (by kernel_rfl) ?_
    simp only [opsAt, List.getElem?_toArray, List.getElem?_cons_zero, List.getElem?_cons_succ, Option.toList_some, List.cons_append, List.nil_append]
    repeat (gi_big_quiet_step (fail))
    refine wpQuietIn_nil ?_
    refine atC_solo 2 3 _ _ _ (by kernel_rfl) ?_
    simp only [opsAt, List.getElem?_toArray, List.getElem?_cons_zero, List.getElem?_cons_succ, Option.toList_some, List.cons_append, List.nil_append]
    gi_wp2_with fail
    refine ⟨rfl, ?_⟩
    refine HP.out.mono ?_
    rintro e w9 ⟨rfl, hr⟩
    obtain ⟨T3, h9, e3⟩ := (H8.out.below (Below.refl _ w8).drew).put hr
    have HB9 := Lib.hid (HB0.out.trans (h9.bel.mono (by have := HB0.out.size; rw [HS.out] at this; exact this)))
    have hc9 := HC.out w9 _ h9
    clear hr h9 e3
    gi_wp2_with fail
    refine ⟨⟨⟨w9, hc9⟩, rfl⟩, ?_⟩
    refine atC_quiet (by kernel_rfl) [3, 7, 8] 0 _ _ (by kernel_rfl) ?_
    simp only [opsAt, List.getElem?_toArray, List.getElem?_cons_zero, List.getElem?_cons_succ, Option.toList_some, List.cons_append, List.nil_append]
    repeat (gi_big_quiet_step (fail))
    refine wpQuietIn_nil ?_
    refine atC_end (by kernel_rfl) ?_
    gi_wp2_with fail
    go_ret
    exact ⟨rfl, HB9.out⟩
  · refine wpIn_region_quiet_below rfl (by kernel_rfl) (by kernel_rfl) ?_
    repeat (gi_big_quiet_step ((refine ⟨rfl, ?_⟩; first | (gi_at_call 17; first | (with_reducible exact RO1.out _ _) | (with_reducible exact RO4.out _ _)) | (gi_at_call 15; with_reducible exact RO2.out _ _) | (gi_at_call 10; with_reducible exact RO3.out _ _))))
    refine wpQuietIn_nil ?_
    rintro _ ⟨rg, rfl⟩
    have hb := below_regrown w7 rg.d rg.os
    obtain ⟨w8, hw8⟩ : ∃ w8, Sort.grow (redrawn w7 rg.d) rg.os = w8 := ⟨_, rfl⟩
    rw [hw8] at hb ⊢
    have H8 := Lib.hid (H7.out.below hb)
    have hc8 := HC.out w8 _ H8.out
    have z0 : ∀ p : Wp N9 xa xb ya yb, p.W.cell? ⟨N9, 0, none⟩ = some (.int .u32 xa) := fun p => p.h.1
    have z1 : ∀ p : Wp N9 xa xb ya yb, p.W.cell? ⟨N9, 1, none⟩ = some (.int .i64 xb) := fun p => p.h.2.1
    have z2 : ∀ p : Wp N9 xa xb ya yb, p.W.cell? ⟨N9 + 1, 0, none⟩ = some (.int .u32 ya) := fun p => p.h.2.2.1
    have z3 : ∀ p : Wp N9 xa xb ya yb, p.W.cell? ⟨N9 + 1, 1, none⟩ = some (.int .i64 yb) := fun p => p.h.2.2.2
    have hpc : putC T2 ya yb = 0 := by simp [putC, HYO.out, O3.out]
    have HPC := Lib.hid hpc
    have HP := Lib.hid (callsIn_wide (n := 0).2 (put_any ya yb (N9 + 1 + 1) T2 w8.drew (H8.out.below (Below.refl _ w8).drew).td hy0 hy1 (by rw [E2.out.length_eq]; simp)))
    rw [hpc] at HP
    obtain ⟨y0, y1, y2, y3⟩ := hc8
    have HD := Lib.hid (HC.out w8.drew _ (H8.out.below (Below.refl _ w8).drew))
    have : Nonempty (Wp N9 xa xb ya yb) := ⟨⟨w8.drew, HD.out⟩⟩
    clear hw8 hb r0 r1 r2 r3 RO1 RO2 RO3 RO4 hpc
    gi_upto_region 9 with fail
    refine wpIn_region_mc (fun W => ∃ p : Wp N9 xa xb ya yb, W = p.W) (fun i => i == 2) rfl (by kernel_rfl) ?_
    refine atC_pure ⟨⟨w8.drew, HD.out⟩, rfl⟩ rfl (by kernel_rfl) (fun _ _ _ d _ h => by cases d <;> exact h) [4, 5, 6] 6 _ _ (by kernel_rfl) ?_
    simp only [opsAt, List.getElem?_toArray, List.getElem?_cons_zero, List.getElem?_cons_succ, Option.toList_some, List.cons_append, List.nil_append]
    repeat (gi_big_quiet_step (fail))
    refine wpQuietIn_nil ?_
    refine atC_quiet (by kernel_rfl) [0, 1] 4 _ _ (by kernel_rfl) ?_
    simp only [opsAt, List.getElem?_toArray, List.getElem?_cons_zero, List.getElem?_cons_succ, Option.toList_some, List.cons_append, List.nil_append]
    repeat (gi_big_quiet_step (fail))
    refine wpQuietIn_nil ?_
    refine atC_solo 2 3 _ _ _ (by kernel_rfl) ?_
    simp only [opsAt, List.getElem?_toArray, List.getElem?_cons_zero, List.getElem?_cons_succ, Option.toList_some, List.cons_append, List.nil_append]
    gi_wp2_with fail
    refine ⟨rfl, ?_⟩
    refine HP.out.mono ?_
    rintro e w9 ⟨rfl, hr⟩
    obtain ⟨T3, h9, e3⟩ := (H8.out.below (Below.refl _ w8).drew).put hr
    have HB9 := Lib.hid (HB0.out.trans (h9.bel.mono (by have := HB0.out.size; rw [HS.out] at this; exact this)))
    have hc9 := HC.out w9 _ h9
    clear hr h9 e3
    gi_wp2_with fail
    refine ⟨⟨⟨w9, hc9⟩, rfl⟩, ?_⟩
    refine atC_quiet (by kernel_rfl) [3, 7, 8] 0 _ _ (by kernel_rfl) ?_
    simp only [opsAt, List.getElem?_toArray, List.getElem?_cons_zero, List.getElem?_cons_succ, Option.toList_some, List.cons_append, List.nil_append]
    repeat (gi_big_quiet_step (fail))
    refine wpQuietIn_nil ?_
    refine atC_end (by kernel_rfl) ?_
    gi_wp2_with fail
    go_ret
    exact ⟨rfl, HB9.out⟩
  · refine wpIn_region_quiet_below rfl (by kernel_rfl) (by kernel_rfl) ?_
    repeat (gi_big_quiet_step ((refine ⟨rfl, ?_⟩; first | (gi_at_call 17; first | (with_reducible exact RO1.out _ _) | (with_reducible exact RO4.out _ _)) | (gi_at_call 15; with_reducible exact RO2.out _ _) | (gi_at_call 10; with_reducible exact RO3.out _ _))))
    refine wpQuietIn_nil ?_
    rintro _ ⟨rg, rfl⟩
    have hb := below_regrown w7 rg.d rg.os
    obtain ⟨w8, hw8⟩ : ∃ w8, Sort.grow (redrawn w7 rg.d) rg.os = w8 := ⟨_, rfl⟩
    rw [hw8] at hb ⊢
    have H8 := Lib.hid (H7.out.below hb)
    have hc8 := HC.out w8 _ H8.out
    have z0 : ∀ p : Wp N9 xa xb ya yb, p.W.cell? ⟨N9, 0, none⟩ = some (.int .u32 xa) := fun p => p.h.1
    have z1 : ∀ p : Wp N9 xa xb ya yb, p.W.cell? ⟨N9, 1, none⟩ = some (.int .i64 xb) := fun p => p.h.2.1
    have z2 : ∀ p : Wp N9 xa xb ya yb, p.W.cell? ⟨N9 + 1, 0, none⟩ = some (.int .u32 ya) := fun p => p.h.2.2.1
    have z3 : ∀ p : Wp N9 xa xb ya yb, p.W.cell? ⟨N9 + 1, 1, none⟩ = some (.int .i64 yb) := fun p => p.h.2.2.2
    have hpc : putC T2 ya yb = 6 := by simp [putC, HYO.out, O3.out]
    have HPC := Lib.hid hpc
    have HP := Lib.hid (callsIn_wide (n := 0).2 (put_any ya yb (N9 + 1 + 1) T2 w8.drew (H8.out.below (Below.refl _ w8).drew).td hy0 hy1 (by rw [E2.out.length_eq]; simp)))
    rw [hpc] at HP
    obtain ⟨y0, y1, y2, y3⟩ := hc8
    have HD := Lib.hid (HC.out w8.drew _ (H8.out.below (Below.refl _ w8).drew))
    have : Nonempty (Wp N9 xa xb ya yb) := ⟨⟨w8.drew, HD.out⟩⟩
    clear hw8 hb r0 r1 r2 r3 RO1 RO2 RO3 RO4 hpc
    gi_upto_region 9 with fail
    refine wpIn_region_mc (fun W => ∃ p : Wp N9 xa xb ya yb, W = p.W) (fun i => i == 2) rfl (by kernel_rfl) ?_
    refine atC_pure ⟨⟨w8.drew, HD.out⟩, rfl⟩ rfl (by kernel_rfl) (fun _ _ _ d _ h => by cases d <;> exact h) [4, 5, 6] 6 _ _ (by kernel_rfl) ?_
    simp only [opsAt, List.getElem?_toArray, List.getElem?_cons_zero, List.getElem?_cons_succ, Option.toList_some, List.cons_append, List.nil_append]
    repeat (gi_big_quiet_step (fail))
    refine wpQuietIn_nil ?_
    refine atC_quiet (by kernel_rfl) [0, 1] 4 _ _ (by kernel_rfl) ?_
    simp only [opsAt, List.getElem?_toArray, List.getElem?_cons_zero, List.getElem?_cons_succ, Option.toList_some, List.cons_append, List.nil_append]
    repeat (gi_big_quiet_step (fail))
    refine wpQuietIn_nil ?_
    refine atC_solo 2 3 _ _ _ (by kernel_rfl) ?_
    simp only [opsAt, List.getElem?_toArray, List.getElem?_cons_zero, List.getElem?_cons_succ, Option.toList_some, List.cons_append, List.nil_append]
    gi_wp2_with fail
    refine ⟨rfl, ?_⟩
    refine HP.out.mono ?_
    rintro e w9 ⟨rfl, hr⟩
    obtain ⟨T3, h9, e3⟩ := (H8.out.below (Below.refl _ w8).drew).put hr
    have HB9 := Lib.hid (HB0.out.trans (h9.bel.mono (by have := HB0.out.size; rw [HS.out] at this; exact this)))
    have hc9 := HC.out w9 _ h9
    clear hr h9 e3
    gi_wp2_with fail
    refine ⟨⟨⟨w9, hc9⟩, rfl⟩, ?_⟩
    refine atC_quiet (by kernel_rfl) [3, 7, 8] 0 _ _ (by kernel_rfl) ?_
    simp only [opsAt, List.getElem?_toArray, List.getElem?_cons_zero, List.getElem?_cons_succ, Option.toList_some, List.cons_append, List.nil_append]
    repeat (gi_big_quiet_step (fail))
    refine wpQuietIn_nil ?_
    refine atC_end (by kernel_rfl) ?_
    gi_wp2_with fail
    go_ret
    exact ⟨rfl, HB9.out⟩
theorem trieTwo_walk (a0 a1 a2 a3 : Int) (w : World) (h00 : 0 ≤ a0) (h01 : a0 < 4294967296) (h10 : 0 ≤ a1) (h11 : a1 < 256) (h20 : 0 ≤ a2) (h21 : a2 < 4294967296) (h30 : 0 ≤ a3) (h31 : a3 < 256) :
    Calls Try.prog 7 #[.int .u32 a0, .int .u8 a1, .int .u32 a2, .int .u8 a3] w fun e w' => e = .returned (.bool true) ∧ Below w.heap.size w w' := by
  have hx := xor_lt a0 (a2 % 512) h00 h01 (by omega) (by omega)
  have b1 := blk_ok a0 (20 + a1 % 13) h00 (by omega) (by omega)
  have b2 := blk_ok (bits .xor .u32 a0 (a2 % 512)) (20 + a3 % 13) hx.1 (by omega) (by omega)
  exact callsIn_wide.1 (two_core a0 a1 a2 a3 _ _ _ _ w b1.2.1 (by omega) b2.2.1 (by omega) b1.1 b2.1 h20 h21 (fun W => block_any a0 a1 W h00 h01 h10 h11) (fun W => block_any _ a3 W hx.1 hx.2 h30 h31))
end Go.Proofs.Ytbfkpapankgndaa
