/-
  The contract of ReadEcho: the packet of bytes, or what is wrong of them. Conditions: rows of bytes that can be read.
-/
import Derived.Test.YtgdbkjiifliobaaFormed
import Derived.Test.YtgdbkjiifliobaaQTail
import Derived.Laws.ResultCell
namespace Go.Proofs.Ytgdbkjiifliobaa
open Go.RowKit

theorem size27 : (Try.prog.info? 27).map (·.size) = some 11 := by kernel_rfl
theorem results_cell2 {P : Program} {fn : Func} {p u : Tmp} {ty : TypeId} (h : fn.results = #[.cell p ty, .tmp u]) (tmps : Array Value) (w : World) (x : Addr) (v : Value) (hp : tmps.getD p undef = .pointer (some x)) (hl : (loadVar ty x).run P w = .ok v w) :
    (results fn tmps).run P w = .ok (.tuple #[v, tmps.getD u undef]) w := by
  rw [results_cell_tmp h, hp]
  simp [asAddr, hl, Result.andThen]
/-- A packet as a value. -/
def pv (p : Pk) : Value := .agg #[.bool p.a, .int .u32 p.f, .int .u32 p.t, .int .u8 p.m0, .int .u8 p.m1, .int .u8 p.m2, .int .u8 p.m3, .int .u8 p.m4, .int .u8 p.m5, .int .i64 p.i, .int .i64 p.s]
def zp : Pk := ⟨false, 0, 0, 0, 0, 0, 0, 0, 0, 0, 0⟩
/-- The cells of a packet. -/
def pl (p : Pk) : List Value := [.bool p.a, .int .u32 p.f, .int .u32 p.t, .int .u8 p.m0, .int .u8 p.m1, .int .u8 p.m2, .int .u8 p.m3, .int .u8 p.m4, .int .u8 p.m5, .int .i64 p.i, .int .i64 p.s]
theorem pl_one (p : Pk) : (pl p).toArray.all (·.oneCell') = true := by simp [pl, Value.oneCell']
theorem Pm.range {w : World} {b : Nat} {p : Pk} (h : Pm w b p) : w.rangeAt b 0 (pl p) := by
  intro j v hv
  match j, hv with
  | 0, hv => rw [← hv]; exact h.c0
  | 1, hv => rw [← hv]; exact h.c1
  | 2, hv => rw [← hv]; exact h.c2
  | 3, hv => rw [← hv]; exact h.c3
  | 4, hv => rw [← hv]; exact h.c4
  | 5, hv => rw [← hv]; exact h.c5
  | 6, hv => rw [← hv]; exact h.c6
  | 7, hv => rw [← hv]; exact h.c7
  | 8, hv => rw [← hv]; exact h.c8
  | 9, hv => rw [← hv]; exact h.c9
  | 10, hv => rw [← hv]; exact h.c10
theorem pm_range {w : World} {b : Nat} {p : Pk} (h : w.rangeAt b 0 (pl p)) : Pm w b p :=
  ⟨h 0 _ rfl, h 1 _ rfl, h 2 _ rfl, h 3 _ rfl, h 4 _ rfl, h 5 _ rfl, h 6 _ rfl, h 7 _ rfl, h 8 _ rfl, h 9 _ rfl, h 10 _ rfl⟩
theorem load27 {w : World} {b : Nat} {p : Pk} (h : Pm w b p) : (loadVar 27 ⟨b, 0, none⟩).run Try.prog w = .ok (pv p) w :=
  run_loadVar_mid w b 0 27 (pl p) _ h.range Try.underlying27 rfl size27
theorem loadAt27 {w : World} {b : Nat} {p : Pk} (h : Pm w b p) : (Instr.loadAt 27 (.pointer (some ⟨b, 0, none⟩))).run Try.prog w = .ok (pv p) w :=
  run_loadAt_mid w b 0 27 (pl p) _ h.range Try.underlying27 rfl size27
/-- A packet in a block that may be written. -/
def Pb (w : World) (b : Nat) (p : Pk) : Prop := Pm w b p ∧ w.there b 0 11
theorem Pb.keep {w w' : World} {b B : Nat} {p : Pk} (h : Pb w b p) (hb : Below B w w') (hB : b < B) : Pb w' b p :=
  ⟨h.1.keep hb hB, fun j hj => ⟨by rw [hb.cell (p := ⟨b, 0 + j, none⟩) hB]; exact (h.2 j hj).1, by rw [hb.frozen (p := ⟨b, 0 + j, none⟩) hB]; exact (h.2 j hj).2⟩⟩
theorem Pb.drewN {w : World} {b : Nat} {p : Pk} (h : Pb w b p) (n : Nat) : Pb (w.drewN n) b p := ⟨⟨h.1.c0, h.1.c1, h.1.c2, h.1.c3, h.1.c4, h.1.c5, h.1.c6, h.1.c7, h.1.c8, h.1.c9, h.1.c10⟩, h.2⟩
theorem pb_box (w : World) (p : Pk) : Pb (w.alloc (Px p)) w.heap.size p := by
  refine ⟨pm_box w p, fun j hj => ?_⟩
  have h : (w.alloc (Px p)).heap[w.heap.size]? = some (Px p) := heap_alloc_new w _
  have e : (w.alloc (Px p)).cell? ⟨w.heap.size, 0 + j, none⟩ = _ := cell_of_row _ _ _ _ _ _ h
  refine ⟨?_, ?_⟩
  · rw [e]
    match j, hj with
    | 0, _ => rfl
    | 1, _ => rfl
    | 2, _ => rfl
    | 3, _ => rfl
    | 4, _ => rfl
    | 5, _ => rfl
    | 6, _ => rfl
    | 7, _ => rfl
    | 8, _ => rfl
    | 9, _ => rfl
    | 10, _ => rfl
  · unfold World.frozen?
    rw [h]
    simp [Px]
theorem Pb.lt {w : World} {b : Nat} {p : Pk} (h : Pb w b p) : b < w.heap.size := World.block_lt_of_cell? _ _ h.1.c0
theorem Pb.put {w : World} {b : Nat} {p : Pk} (h : Pb w b p) (q : Pk) : Pb (w.setCells b 0 (pl q)) b q :=
  ⟨pm_range (World.rangeAt_setCells_same w b 0 (pl q) h.2), World.there_setCells h.2 b 0 (pl q)⟩
theorem below_put {B b : Nat} {w0 : World} (hb : B ≤ b) : ∀ (vs : List Value) (o : Nat) (w : World), Below B w0 w → Below B w0 (w.setCells b o vs)
  | [], _, _, h => h
  | v :: r, o, w, h => below_put hb r (o + 1) _ (h.setCell (by exact hb) v)
section
variable {ops : Array Oper} {rest : List Oper} {o : Oper} {a : Act} {w : World} {Q : Exit → Act → World → Prop}
theorem at_store27 (x y : Operand) (b : Nat) (p q : Pk) (H : Pb w b p) (hgd : o.guard = none) (ho : o.op = .store 27 x y) (hx : a.eval x = .pointer (some ⟨b, 0, none⟩)) (hy : a.eval y = pv q)
    (h : ∀ w', Hid (Pb w' b q) → Hid (∀ B, B ≤ b → Below B w w') → wpList Try.prog ops Q rest (a.put o.dst undef) w') : wpList Try.prog ops Q (o :: rest) a w :=
  wpList_store_mid hgd 27 x y ho b 0 (pl q).toArray hx hy H.2 size27 (pl_one q) (h _ (H.put q) (fun _ hB => below_put hB _ _ _ (Below.refl _ _)))
theorem at_load27 (x : Operand) (b : Nat) (p : Pk) (H : Pm w b p) (hgd : o.guard = none) (ho : o.op = .load 27 x) (hx : a.eval x = .pointer (some ⟨b, 0, none⟩))
    (h : wpList Try.prog ops Q rest (a.put o.dst (pv p)) w) : wpList Try.prog ops Q (o :: rest) a w :=
  wpList_plain hgd fun _ hK => by
    unfold Oper.wp execOp
    simp only [ho, hx, Sem.run_bind, Sem.run_pure, Result.andThen_ok, loadAt27 H]
    exact hK _ _ h
end

set_option maxRecDepth 100000 in
theorem readEcho_form (A : Option Addr) (zs : List Nat) (c : Nat) (w : World) (h : Rd w A zs) (hc : zs.length ≤ c) (hf : fe zs = false) :
    Calls Try.prog 16 #[.slice A zs.length c] w fun e w' => e = .returned (.tuple #[pv zp, .int .i64 1]) ∧ Below w.heap.size w w' := by
  have C := Lib.hid (formedEcho_any A zs c _ (h.below ((Below.refl _ w).alloc (Nat.le_refl _) (Px zp))) hc)
  rw [hf] at C
  have B := Lib.hid ((Below.refl w.heap.size w).alloc (Nat.le_refl _) (Px zp))
  have PB := Lib.hid (pb_box w zp)
  clear h hf
  generalize zs.length = n at *
  go_enter Try.func16, Try.ntmps16
  go_wp2_with fail
  refine C.out.mono ?_
  rintro e w1 ⟨rfl, m, rfl⟩
  go_wp2_with (refine at_store27 _ _ _ zp zp (PB.out.drewN m) rfl rfl rfl rfl ?_; intro w2 P2 B2)
  refine bodyPost_ret (results_cell2 rfl _ _ _ _ rfl (load27 P2.out.1)) rfl ?_
  exact ⟨rfl, (below_drewN B.out m).trans (B2.out _ (Nat.le_refl _))⟩

set_option maxRecDepth 100000 in
theorem readEcho_sum (A : Option Addr) (zs : List Nat) (c : Nat) (w : World) (h : Rd w A zs) (hc : zs.length ≤ c) (hf : fe zs = true) (hs : ¬ (wd (zs.take 20) = 65535 ∧ wd (zs.drop 20) = 65535)) :
    Calls Try.prog 16 #[.slice A zs.length c] w fun e w' => e = .returned (.tuple #[pv zp, .int .i64 2]) ∧ Below w.heap.size w w' := by
  have hl : zs.length = 32 := by unfold fe at hf; simp at hf; exact hf.1
  obtain ⟨x, rfl⟩ := h.some (by omega)
  have H1 := h.below ((Below.refl _ w).alloc (Nat.le_refl _) (Px zp))
  have C := Lib.hid (formedEcho_any _ zs c _ H1 hc)
  have B := Lib.hid ((Below.refl w.heap.size w).alloc (Nat.le_refl _) (Px zp))
  have PB := Lib.hid (pb_box w zp)
  have S1 := fun m => sealed_any _ (zs.take 20) c _ ((H1.take 20).drewN m)
  have R2 : Rd (w.alloc (Px zp)) (some ⟨x.block, x.off + 20, none⟩) (zs.drop 20) := by
    refine ⟨by rw [List.length_drop]; omega, h.2.1.drop 20, fun k hk => ⟨_, rfl, ?_⟩⟩
    rw [List.length_drop] at hk
    rw [Addr.add_mid, getD_drop]
    have := H1.at (k + 19) (by omega)
    rw [show k + 19 + 1 = 20 + k by omega] at this
    rw [← this, Nat.add_assoc]
  have S2 := fun m => sealed_any _ (zs.drop 20) (c - 20) _ (R2.drewN m)
  rw [hf, hl] at C
  rw [List.length_take, hl] at S1
  rw [List.length_drop, hl] at S2
  rw [hl] at hc ⊢
  have HS1 := Lib.hid S1
  have HS2 := Lib.hid S2
  have hz : ¬ c = 20 := by omega
  clear h hf H1 R2 S1 S2 hl
  go_enter Try.func16, Try.ntmps16
  go_wp2_with fail
  refine C.out.mono ?_
  rintro e w1 ⟨rfl, m, rfl⟩
  go_wp2_with fail
  refine (HS1.out m).mono ?_
  rintro e w1 ⟨rfl, rfl⟩
  by_cases h1 : wd (zs.take 20) = 65535
  · rw [decide_eq_true h1]
    have h2 : ¬ wd (zs.drop 20) = 65535 := fun h2 => hs ⟨h1, h2⟩
    clear hs h1
    go_wp2_with fail
    refine (HS2.out m).mono ?_
    rintro e w1 ⟨rfl, rfl⟩
    rw [decide_eq_false h2]
    clear h2
    go_wp2_with (refine at_store27 _ _ _ zp zp (PB.out.drewN m) rfl rfl rfl rfl ?_; intro w2 P2 B2)
    refine bodyPost_ret (results_cell2 rfl _ _ _ _ rfl (load27 P2.out.1)) rfl ?_
    exact ⟨rfl, (below_drewN B.out m).trans (B2.out _ (Nat.le_refl _))⟩
  · rw [decide_eq_false h1]
    clear hs h1
    go_wp2_with (refine at_store27 _ _ _ zp zp (PB.out.drewN m) rfl rfl rfl rfl ?_; intro w2 P2 B2)
    refine bodyPost_ret (results_cell2 rfl _ _ _ _ rfl (load27 P2.out.1)) rfl ?_
    exact ⟨rfl, (below_drewN B.out m).trans (B2.out _ (Nat.le_refl _))⟩

/-- The packet that an echo's bytes are. -/
def epk (zs : List Nat) : Pk :=
  ⟨decide (zs.getD 20 0 = 0), 65536 * (256 * zs.getD 12 0 + zs.getD 13 0) + (256 * zs.getD 14 0 + zs.getD 15 0), 65536 * (256 * zs.getD 16 0 + zs.getD 17 0) + (256 * zs.getD 18 0 + zs.getD 19 0), 0, 0, 0, 0, 0, 0,
    ((256 * zs.getD 24 0 + zs.getD 25 0 : Nat) : Int), ((256 * zs.getD 26 0 + zs.getD 27 0 : Nat) : Int)⟩
theorem rd_off {w : World} {x : Addr} {zs : List Nat} (h : Rd w (some x) zs) (k : Nat) (hk : 0 < k) : Rd w (some ⟨x.block, x.off + k, none⟩) (zs.drop k) := by
  refine ⟨by have := h.1; rw [List.length_drop]; omega, h.2.1.drop k, fun i hi => ⟨_, rfl, ?_⟩⟩
  rw [List.length_drop] at hi
  rw [Addr.add_mid, getD_drop]
  have := h.at (i + k - 1) (by omega)
  rw [show i + k - 1 + 1 = k + i by omega] at this
  rw [← this, Nat.add_assoc]

set_option maxRecDepth 100000 in
set_option maxHeartbeats 1000000 in
theorem readEcho_ok (A : Option Addr) (zs : List Nat) (c : Nat) (w : World) (h : Rd w A zs) (hc : zs.length ≤ c) (hf : fe zs = true) (h1 : wd (zs.take 20) = 65535) (h2 : wd (zs.drop 20) = 65535) :
    Calls Try.prog 16 #[.slice A zs.length c] w fun e w' => e = .returned (.tuple #[pv (epk zs), .int .i64 0]) ∧ Below w.heap.size w w' := by
  have hl : zs.length = 32 := by unfold fe at hf; simp at hf; exact hf.1
  obtain ⟨x, rfl⟩ := h.some (by omega)
  have H1 := h.below ((Below.refl _ w).alloc (Nat.le_refl _) (Px zp))
  have C := Lib.hid (formedEcho_any _ zs c _ H1 hc)
  have B := Lib.hid ((Below.refl w.heap.size w).alloc (Nat.le_refl _) (Px zp))
  have PB := Lib.hid (pb_box w zp)
  have S1 := fun m => sealed_any _ (zs.take 20) c _ ((H1.take 20).drewN m)
  have S2 := fun m => sealed_any _ (zs.drop 20) (c - 20) _ ((rd_off H1 20 (by omega)).drewN m)
  rw [hf, hl] at C
  rw [List.length_take, hl, decide_eq_true h1] at S1
  rw [List.length_drop, hl, decide_eq_true h2] at S2
  rw [hl] at hc ⊢
  have HS1 := Lib.hid S1
  have HS2 := Lib.hid S2
  have hz : ¬ c = 20 := by omega
  have hz1 : ¬ c = 12 := by omega
  have hz2 : ¬ c = 16 := by omega
  have hz3 : ¬ c = 24 := by omega
  have hz4 : ¬ c = 26 := by omega
  have H := Lib.hid H1
  have HL := Lib.hid hl
  clear h hf H1 S1 S2 hl h1 h2
  go_enter Try.func16, Try.ntmps16
  go_wp2_with fail
  refine C.out.mono ?_
  rintro e w1 ⟨rfl, m, rfl⟩
  go_wp2_with fail
  refine (HS1.out m).mono ?_
  rintro e w1 ⟨rfl, rfl⟩
  go_wp2_with fail
  refine (HS2.out m).mono ?_
  rintro e w1 ⟨rfl, rfl⟩
  replace H := Lib.hid (H.out.drewN m)
  replace PB := Lib.hid (PB.out.drewN m)
  replace B := Lib.hid (below_drewN B.out m)
  clear HS1 HS2 C
  go_upto_region 5 with fail
  change Code.wp _ _ _ _ ((w.alloc (Px zp)).drewN m)
  generalize (w.alloc (Px zp)).drewN m = w1 at *
  have c20 := H.out.at 19 (by rw [HL.out]; omega)
  have A1 := Lib.hid fun N => q_drew (addrOf_any ⟨x.block, x.off + 12, none⟩ 20 (zs.getD 12 0) (zs.getD 13 0) (zs.getD 14 0) (zs.getD 15 0) (c - 12) (w1.drewN N) (by omega) (by omega) (H.out.2.1 _) (H.out.2.1 _) (H.out.2.1 _) (H.out.2.1 _)
    (H.out.at 11 (by rw [HL.out]; omega)) (H.out.at 12 (by rw [HL.out]; omega)) (H.out.at 13 (by rw [HL.out]; omega)) (H.out.at 14 (by rw [HL.out]; omega)))
  have A2 := Lib.hid fun N => q_drew (addrOf_any ⟨x.block, x.off + 16, none⟩ 16 (zs.getD 16 0) (zs.getD 17 0) (zs.getD 18 0) (zs.getD 19 0) (c - 16) (w1.drewN N) (by omega) (by omega) (H.out.2.1 _) (H.out.2.1 _) (H.out.2.1 _) (H.out.2.1 _)
    (H.out.at 15 (by rw [HL.out]; omega)) (H.out.at 16 (by rw [HL.out]; omega)) (H.out.at 17 (by rw [HL.out]; omega)) (H.out.at 18 (by rw [HL.out]; omega)))
  have W1 := Lib.hid fun N => q_drew (wordOf_any ⟨x.block, x.off + 24, none⟩ 8 (zs.getD 24 0) (zs.getD 25 0) (c - 24) (w1.drewN N) (by omega) (H.out.2.1 _) (H.out.2.1 _) (H.out.at 23 (by rw [HL.out]; omega)) (H.out.at 24 (by rw [HL.out]; omega)))
  have W2 := Lib.hid fun N => q_drew (wordOf_any ⟨x.block, x.off + 26, none⟩ 6 (zs.getD 26 0) (zs.getD 27 0) (c - 26) (w1.drewN N) (by omega) (H.out.2.1 _) (H.out.2.1 _) (H.out.at 25 (by rw [HL.out]; omega)) (H.out.at 26 (by rw [HL.out]; omega)))
  have EP := Lib.hid (show epk zs = (⟨((zs.getD 20 0 : Nat) : Int) == 0, 65536 * (256 * zs.getD 12 0 + zs.getD 13 0) + (256 * zs.getD 14 0 + zs.getD 15 0), 65536 * (256 * zs.getD 16 0 + zs.getD 17 0) + (256 * zs.getD 18 0 + zs.getD 19 0), 0, 0, 0, 0, 0, 0,
    ((256 * zs.getD 24 0 + zs.getD 25 0 : Nat) : Int), ((256 * zs.getD 26 0 + zs.getD 27 0 : Nat) : Int)⟩ : Pk) by unfold epk; congr 1; rw [Bool.eq_iff_iff]; simp)
  have u24 := H.out.2.1 24
  have u25 := H.out.2.1 25
  have u26 := H.out.2.1 26
  have u27 := H.out.2.1 27
  obtain ⟨i, hi⟩ : ∃ i, i = 256 * zs.getD 24 0 + zs.getD 25 0 := ⟨_, rfl⟩
  obtain ⟨s, hs⟩ : ∃ s, s = 256 * zs.getD 26 0 + zs.getD 27 0 := ⟨_, rfl⟩
  have hi2 : i < 65536 := by omega
  have hs2 : s < 65536 := by omega
  generalize hF : 65536 * (256 * zs.getD 12 0 + zs.getD 13 0) + (256 * zs.getD 14 0 + zs.getD 15 0) = F at *
  generalize hT : 65536 * (256 * zs.getD 16 0 + zs.getD 17 0) + (256 * zs.getD 18 0 + zs.getD 19 0) = T at *
  rw [← hi] at W1 EP
  rw [← hs] at W2 EP
  clear hi hs hF hT u24 u25 u26 u27 H HL
  generalize zs.getD 20 0 = k at *
  refine wp_region_quiet_tail_lit 18 (by kernel_rfl) (by kernel_rfl) ?_
  simp only [List.take_succ_cons, List.take_zero, List.drop_succ_cons, List.drop_zero]
  repeat (go_big_quiet_step (first | (go_at_call 25; first | (with_reducible exact A1.out _) | (with_reducible exact A2.out _)) | (go_at_call 28; first | (with_reducible exact W1.out _) | (with_reducible exact W2.out _))))
  refine wpQuiet_nil ?_
  rintro w2 ⟨n2, rfl⟩
  go_wp2_with (refine at_store27 _ _ _ zp ⟨(k : Int) == 0, F, T, 0, 0, 0, 0, 0, 0, (i : Int), (s : Int)⟩ (PB.out.drewN n2) rfl rfl rfl rfl ?_; intro w3 P3 B3)
  refine bodyPost_ret (results_cell2 rfl _ _ _ _ rfl (load27 P3.out.1)) rfl ?_
  refine ⟨by rw [EP.out]; rfl, (below_drewN B.out n2).trans (B3.out _ (Nat.le_refl _))⟩
end Go.Proofs.Ytgdbkjiifliobaa
