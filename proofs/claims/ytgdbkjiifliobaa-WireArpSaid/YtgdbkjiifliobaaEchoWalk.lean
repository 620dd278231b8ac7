/-
  WireEcho's walk: for every packet it returns true, and nothing that was in memory is touched. Conditions: the numbers have their bits.
-/
import Derived.Test.YtgdbkjiifliobaaEchoStr
import Derived.Laws.BitsLemmas
import Derived.Lib.QuietBelow
namespace Go.Proofs.Ytgdbkjiifliobaa
open Go.RowKit

theorem i64_low16 (n : Int) : bits .and .i64 n 65535 = ((lo n : Nat) : Int) := by
  have h : (BitVec.ofInt 64 65535).toNat = 2 ^ 16 - 1 := by decide
  have key : (BitVec.ofInt 64 n &&& BitVec.ofInt 64 65535).toNat = (n % ((2 ^ 64 : Nat) : Int)).toNat % 2 ^ 16 := by
    rw [BitVec.toNat_and, BitVec.toNat_ofInt, h, Nat.and_two_pow_sub_one_eq_mod]
  show IntKind.i64.wrap ((BitVec.ofInt 64 n &&& BitVec.ofInt 64 65535).toNat : Nat) = _
  rw [key, IntKind.wrap_i64, lo_eq]
  omega
theorem put_far {b k : Nat} (hk : k ≠ b) : ∀ (vs : List Value) (o : Nat) (w : World), (w.setCells b o vs).heap[k]? = w.heap[k]?
  | [], _, _ => rfl
  | v :: r, o, w => by
    rw [World.setCells, put_far hk r (o + 1)]
    exact Below.heap_setCell _ _ _ _ hk
theorem Pb.far {w w' : World} {b : Nat} {p : Pk} (h : Pb w b p) (he : w'.heap[b]? = w.heap[b]?) : Pb w' b p := by
  have e : ∀ o, w'.cell? ⟨b, o, none⟩ = w.cell? ⟨b, o, none⟩ := fun o => World.cell?_of_block he
  have f : ∀ o, w'.frozen? ⟨b, o, none⟩ = w.frozen? ⟨b, o, none⟩ := fun o => by unfold World.frozen?; simp only [he]
  exact ⟨pm_range fun j v hv => (e _).trans (h.1.range j v hv), fun j hj => ⟨by rw [e]; exact (h.2 j hj).1, by rw [f]; exact (h.2 j hj).2⟩⟩
theorem Pb.part {w : World} {b : Nat} {p : Pk} (h : Pb w b p) (o : Nat) (vs : List Value) (q : Pk) (ho : o + vs.length ≤ 11) (hq : ∀ j v, (pl q)[j]? = some v → if o ≤ j ∧ j < o + vs.length then vs[j - o]? = some v else (pl p)[j]? = some v) : Pb (w.setCells b o vs) b q := by
  refine ⟨pm_range fun j v hv => ?_, World.there_setCells h.2 b o vs⟩
  have h1 := hq j v hv
  rw [Nat.zero_add]
  split at h1
  · rename_i hj
    have hs : ∀ i, i < vs.length → (w.cell? ⟨b, o + i, none⟩).isSome = true := fun i hi => by
      have := (h.2 (o + i) (by omega)).1
      rwa [Nat.zero_add] at this
    have := World.cell?_setCells_in b vs o w hs (j - o) (by omega)
    rw [show o + (j - o) = j by omega] at this
    rw [this, ← h1, List.getElem?_eq_getElem (by omega)]
  · rename_i hj
    rw [World.cell?_setCells_out b vs o w ⟨b, j, none⟩ (fun _ _ => by show j < o ∨ o + vs.length ≤ j; omega)]
    have := h.1.range j v h1
    rwa [Nat.zero_add] at this
section
variable {ops : Array Oper} {rest : List Oper} {o : Oper} {a : Act} {w : World} {Q : Exit → Act → World → Prop}
theorem size25 : (Try.prog.info? 25).map (·.size) = some 6 := by kernel_rfl
theorem at_storeMac (x y : Operand) (b : Nat) (p : Pk) (H : Pb w b p) (hgd : o.guard = none) (ho : o.op = .store 25 x y) (hx : a.eval x = .pointer (some ⟨b, 3, none⟩)) (hy : a.eval y = .agg #[.int .u8 0, .int .u8 0, .int .u8 0, .int .u8 0, .int .u8 0, .int .u8 0])
    (h : ∀ w', Hid (Pb w' b ⟨p.a, p.f, p.t, 0, 0, 0, 0, 0, 0, p.i, p.s⟩) → Hid ((∀ B, B ≤ b → Below B w w') ∧ ∀ k, k ≠ b → w'.heap[k]? = w.heap[k]?) → wpList Try.prog ops Q rest (a.put o.dst undef) w') : wpList Try.prog ops Q (o :: rest) a w :=
  wpList_store_mid hgd 25 x y ho b 3 #[.int .u8 0, .int .u8 0, .int .u8 0, .int .u8 0, .int .u8 0, .int .u8 0] hx hy (fun j hj => by have := H.2 (3 + j) (by simp at hj; omega); rwa [Nat.zero_add] at this) size25 (by simp [Value.oneCell'])
    (h _ (H.part 3 _ _ (by simp) (fun j v hv => by
      match j, hv with
      | 0, hv | 1, hv | 2, hv | 3, hv | 4, hv | 5, hv | 6, hv | 7, hv | 8, hv | 9, hv | 10, hv => simpa [pl] using hv)) ⟨fun _ hB => below_put hB _ _ _ (Below.refl _ _), fun _ hk => put_far hk _ _ _⟩)
theorem at_storeI (x y : Operand) (b : Nat) (p : Pk) (n : Int) (H : Pb w b p) (hgd : o.guard = none) (ho : o.op = .store 3 x y) (hx : a.eval x = .pointer (some ⟨b, 9, none⟩)) (hy : a.eval y = .int .i64 n)
    (h : ∀ w', Hid (Pb w' b ⟨p.a, p.f, p.t, p.m0, p.m1, p.m2, p.m3, p.m4, p.m5, n, p.s⟩) → Hid ((∀ B, B ≤ b → Below B w w') ∧ ∀ k, k ≠ b → w'.heap[k]? = w.heap[k]?) → wpList Try.prog ops Q rest (a.put o.dst undef) w') : wpList Try.prog ops Q (o :: rest) a w :=
  wpList_plain hgd fun _ hK => by
    have h1 := H.1.c9
    have h2 := (H.2 9 (by omega)).2
    rw [Nat.zero_add] at h2
    have e : (Instr.storeAt 3 (.pointer (some ⟨b, 9, none⟩)) (.int .i64 n)).run Try.prog w = .ok () (w.setCell ⟨b, 9, none⟩ (.int .i64 n)) := by simp [go_sem, Instr.storeAt, h1, h2]
    unfold Oper.wp execOp
    simp only [ho, hx, hy, Sem.run_bind, Sem.run_pure, Result.andThen_ok, e]
    exact hK _ _ (h _ (H.part 9 [.int .i64 n] _ (by simp) (fun j v hv => by
      match j, hv with
      | 0, hv | 1, hv | 2, hv | 3, hv | 4, hv | 5, hv | 6, hv | 7, hv | 8, hv | 9, hv | 10, hv => simpa [pl] using hv)) ⟨fun _ hB => (Below.refl _ _).setCell (p := ⟨b, 9, none⟩) hB _, fun _ hk => Below.heap_setCell _ _ _ _ hk⟩)
theorem at_storeS (x y : Operand) (b : Nat) (p : Pk) (n : Int) (H : Pb w b p) (hgd : o.guard = none) (ho : o.op = .store 3 x y) (hx : a.eval x = .pointer (some ⟨b, 10, none⟩)) (hy : a.eval y = .int .i64 n)
    (h : ∀ w', Hid (Pb w' b ⟨p.a, p.f, p.t, p.m0, p.m1, p.m2, p.m3, p.m4, p.m5, p.i, n⟩) → Hid ((∀ B, B ≤ b → Below B w w') ∧ ∀ k, k ≠ b → w'.heap[k]? = w.heap[k]?) → wpList Try.prog ops Q rest (a.put o.dst undef) w') : wpList Try.prog ops Q (o :: rest) a w :=
  wpList_plain hgd fun _ hK => by
    have h1 := H.1.c10
    have h2 := (H.2 10 (by omega)).2
    rw [Nat.zero_add] at h2
    have e : (Instr.storeAt 3 (.pointer (some ⟨b, 10, none⟩)) (.int .i64 n)).run Try.prog w = .ok () (w.setCell ⟨b, 10, none⟩ (.int .i64 n)) := by simp [go_sem, Instr.storeAt, h1, h2]
    unfold Oper.wp execOp
    simp only [ho, hx, hy, Sem.run_bind, Sem.run_pure, Result.andThen_ok, e]
    exact hK _ _ (h _ (H.part 10 [.int .i64 n] _ (by simp) (fun j v hv => by
      match j, hv with
      | 0, hv | 1, hv | 2, hv | 3, hv | 4, hv | 5, hv | 6, hv | 7, hv | 8, hv | 9, hv | 10, hv => simpa [pl] using hv)) ⟨fun _ hB => (Below.refl _ _).setCell (p := ⟨b, 10, none⟩) hB _, fun _ hk => Below.heap_setCell _ _ _ _ hk⟩)
end
/-- A packet as it is read of an echo. -/
def pe (p : Pk) : Pk := ⟨p.a, p.f, p.t, 0, 0, 0, 0, 0, 0, (lo p.i : Int), (lo p.s : Int)⟩
theorem lo_lo (n : Int) : lo ((lo n : Nat) : Int) = lo n := by unfold lo; omega
theorem pe_ok (p : Pk) (h : p.Ok) : (pe p).Ok := ⟨h.f, h.t, by show 0 < 256; omega, by show 0 < 256; omega, by show 0 < 256; omega, by show 0 < 256; omega, by show 0 < 256; omega, by show 0 < 256; omega⟩
theorem ecb_pe (p : Pk) : ecb (pe p) = ecb p := by unfold ecb hdp bdp pe; rw [lo_lo, lo_lo]
theorem below_grow {w : World} (p : Regrown) : Below w.heap.size w (Sort.grow (redrawn w p.d) p.os) := below_regrown w p.d p.os

set_option maxRecDepth 100000 in
set_option maxHeartbeats 1000000 in
theorem wireEcho_walk (p : Pk) (w : World) (hp : p.Ok) : Calls Try.prog 4 #[pv p] w fun e w' => e = .returned (.bool true) ∧ Below w.heap.size w w' := by
  have CW := Lib.hid fun W => awake_any W
  have CE := Lib.hid fun W => echo_any p W hp
  have CT := Lib.hid fun W => (ecb_pe p) ▸ echoText_any (pe p) W (pe_ok p hp)
  have CR := Lib.hid fun g W (h : Rd W (some ⟨g, 0, none⟩) (ecb p)) => ecb_rpk p ▸ ecb_red p ▸ readEcho_any (some ⟨g, 0, none⟩) (ecb p) 32 W h (Nat.le_refl _)
  have P0 := Lib.hid (pb_box w p)
  have D0 := Lib.hid ((Below.refl w.heap.size w).alloc (Nat.le_refl _) (Px p))
  have EI := i64_low16 p.i
  have ES := i64_low16 p.s
  clear hp
  unfold pv
  go_enter Try.func4, Try.ntmps4
  go_wp2_with fail
  refine (CW.out _).mono ?_
  rintro e w1 ⟨rfl, b1⟩
  have P1 := Lib.hid (P0.out.keep b1 P0.out.lt)
  have D1 := Lib.hid (D0.out.trans (b1.mono D0.out.size))
  clear b1 P0 D0
  go_wp2_with (refine at_load27 _ _ p P1.out.1 rfl rfl rfl ?_)
  refine (CE.out _).mono ?_
  rintro e w2 ⟨rfl, o2, b2⟩
  have P2 := Lib.hid (P1.out.keep b2 P1.out.lt)
  have D2 := Lib.hid (D1.out.trans (b2.mono D1.out.size))
  have O2 := Lib.hid o2
  have hz2 : w.heap.size < w1.heap.size + 1 := by have := P1.out.lt; omega
  clear o2 b2 P1 D1
  generalize w1.heap.size + 1 = g at *
  go_wp2_with fail
  refine (CR.out _ _ O2.out.rd).mono ?_
  rintro e w3 ⟨rfl, b3⟩
  have P3 := Lib.hid (P2.out.keep b3 P2.out.lt)
  have D3 := Lib.hid (D2.out.trans (b3.mono D2.out.size))
  have O3 := Lib.hid (O2.out.below (by omega) b3)
  clear b3 P2 D2 O2
  have PB := Lib.hid (pb_box w3 zp)
  have bb := (Below.refl _ w3).alloc (Nat.le_refl _) (Px zp)
  have P4 := Lib.hid (P3.out.keep bb P3.out.lt)
  have D4 := Lib.hid (D3.out.alloc D3.out.size (Px zp))
  have O4 := Lib.hid (O3.out.below (by omega) bb)
  have hz3 := P3.out.lt
  have hz4 := (O3.out.block (by omega)).2
  clear bb
  go_upto_region 5 with (refine at_store27 _ _ _ zp (pe p) PB.out rfl rfl rfl rfl ?_; intro w4 P5 B5)
  have bb := B5.out w3.heap.size (Nat.le_refl _)
  have P6 := Lib.hid (P4.out.keep bb hz3)
  have D5 := Lib.hid (D4.out.trans (B5.out _ D3.out.size))
  have O5 := Lib.hid (show Ow g g 32 (ecb p) w4 from ow_of_heap (by rw [bb.block _ hz4]; exact O4.out.heap) O4.out.len O4.out.2.1 O4.out.2.2 (Nat.le_refl _))
  clear P3 P4 D4 D3 B5 PB O3 O4 bb
  have c9 := P6.out.1.c9
  have c10 := P6.out.1.c10
  go_upto_region 6 with (first
    | (refine at_storeMac _ _ w.heap.size p P6.out rfl rfl rfl rfl ?_; intro w5 P7 B7)
    | (refine at_storeI _ _ w.heap.size _ (lo p.i : Int) P7.out rfl rfl rfl rfl ?_; intro w6 P8 B8)
    | (refine at_storeS _ _ w.heap.size _ (lo p.s : Int) P8.out rfl rfl rfl rfl ?_; intro w7 P9 B9))
  have Q1 : Pb w7 w.heap.size (pe p) := P9.out
  have e7 : ∀ k, k ≠ w.heap.size → w7.heap[k]? = w4.heap[k]? := fun k hk => ((B9.out.2 k hk).trans (B8.out.2 k hk)).trans (B7.out.2 k hk)
  have Q2 : Pb w7 w3.heap.size (pe p) := P5.out.far (e7 _ (by omega))
  have O7 : Ow g g 32 (ecb p) w7 := ow_of_heap ((e7 g (by omega)).trans O5.out.heap) O5.out.len O5.out.2.1 O5.out.2.2 (Nat.le_refl _)
  have D7 := Lib.hid (((D5.out.trans (B7.out.1 _ (Nat.le_refl _))).trans (B8.out.1 _ (Nat.le_refl _))).trans (B9.out.1 _ (Nat.le_refl _)))
  have HL1 := Lib.hid fun W (h : ∃ q : Regrown, W = Sort.grow (redrawn w7 q.d) q.os) => show Pm W w.heap.size (pe p) by
    obtain ⟨q, rfl⟩ := h
    exact (Q1.keep (below_grow q) Q1.lt).1
  have HL2 := Lib.hid fun W (h : ∃ q : Regrown, W = Sort.grow (redrawn w7 q.d) q.os) => show Pm W w3.heap.size (pe p) by
    obtain ⟨q, rfl⟩ := h
    exact (Q2.keep (below_grow q) Q2.lt).1
  obtain ⟨T, hT⟩ : ∃ T, stg (ecb p) = T := ⟨_, rfl⟩
  have HC : ∀ d os, (convert 28 9 (.slice (some ⟨g, 0, none⟩) 32 32)).run Try.prog (Sort.grow (redrawn w7 d) os) = .ok (.string T) (Sort.grow (redrawn w7 d) os) := fun d os => hT ▸ run_stg (O7.rd.below (below_regrown w7 d os)) 32
  have CT' := Lib.hid fun d os => Calls.regrown_of (w := w7) (d := d) (os := os) (hT ▸ CT.out (Sort.grow (redrawn w7 d) os))
  clear P5 P6 P7 P8 P9 B7 B8 B9 O5 Q1 Q2 O7 e7 c9 c10 D5 CT hT
  refine wp_region_quiet_below (by kernel_rfl) (by kernel_rfl) ?_
  simp only [Act.put]
  repeat (first
    | (refine quiet_load27 _ w.heap.size (pe p) HL1.out (by kernel_rfl) rfl rfl ?_; simp only [Act.put, List.setIfInBounds_toArray, List.set_cons_zero, List.set_cons_succ])
    | (refine quiet_load27 _ w3.heap.size (pe p) HL2.out (by kernel_rfl) rfl rfl ?_; simp only [Act.put, List.setIfInBounds_toArray, List.set_cons_zero, List.set_cons_succ])
    | (refine quiet_eql27 _ _ (pe p) (pe p) (by kernel_rfl) rfl rfl rfl ?_; rw [eqp_refl]; simp only [Act.put, List.setIfInBounds_toArray, List.set_cons_zero, List.set_cons_succ])
    | (go_big_quiet_step ((go_at_call 17; (with_reducible exact CT'.out _ _)))))
  refine wpQuiet_nil ?_
  rintro w8 ⟨q8, rfl⟩
  go_wp2_with fail
  go_ret
  exact ⟨rfl, D7.out.trans ((below_grow q8).mono D7.out.size)⟩
end Go.Proofs.Ytgdbkjiifliobaa
