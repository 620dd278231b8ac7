/-
  The event of an act. Conditions: the act's numbers are in their bounds.
-/
import Derived.Test.YtilneflfeegnfaaGreatMOd
import Derived.Test.YtilneflfeegnfaaGreatMOb
import Derived.Test.YtilneflfeegnfaaGreatMG
import Derived.Deep.RegionWith
import Derived.BigQuiet
set_option linter.unusedSimpArgs false
set_option linter.unusedVariables false
namespace Go.Proofs.YtilneflfeegnfaaGreat
open Go.RowKit
def kt : Nat → Int
  | 0 => 0 | 1 => 0 | 2 => 0 | 3 => 1 | 4 => 1 | 5 => 2 | 6 => 3 | 7 => 4 | 8 => 5 | 9 => 5 | 10 => 5 | 11 => 6 | 12 => 6 | 13 => 7 | 14 => 5 | _ => 8
def s0 (m : Int) : Int := if m < 128 then 2 else 0
def s5 (m : Int) : Int := if m < 128 then 1 + m % 3 else 0
theorem stat_any (m : Int) (w : World) (h0 : 0 ≤ m) (h1 : m < 256) : Calls Tryz.prog 48 #[.int .u8 m] w fun e w' => e = .returned (.agg #[.int .u8 (s0 m), .int .u8 0, .int .u8 0, .int .u8 0, .int .u8 0, .int .u8 (s5 m)]) ∧ Below w.heap.size w w' := by
  refine (Su.station_any m w h0 h1).mono fun e w' ⟨he, hb⟩ => ⟨?_, hb⟩
  rw [he]
  by_cases h : m < 128 <;> simp [s0, s5, h, Su.sn, Su.mv, Su.zm]
def oS (r : Nat) : ByteArray := ⟨#[UInt8.ofNat (97 + r)]⟩
def oT (r : Nat) : ByteArray := ⟨#[111, UInt8.ofNat (97 + r)]⟩
theorem run_oS (r : Nat) (hr : r < 8) (W : World) : (Instr.slice 9 (.string ⟨#[97, 98, 99, 100, 101, 102, 103, 104]⟩) (some (.int .u8 (r : Int))) (some (.int .u8 ((r : Int) + 1))) none).run Tryz.prog W = .ok (.string (oS r)) W := by
  rcases (show r = 0 ∨ r = 1 ∨ r = 2 ∨ r = 3 ∨ r = 4 ∨ r = 5 ∨ r = 6 ∨ r = 7 by omega) with rfl | rfl | rfl | rfl | rfl | rfl | rfl | rfl <;> kernel_rfl
theorem run_oT (r : Nat) (W : World) : (Op.stringOp .add ⟨#[111]⟩ (oS r)).run Tryz.prog W = .ok (.string (oT r)) W := by
  unfold oS oT Op.stringOp
  rfl
def evA (y : Ak) : Evt := ⟨kt (y.q % 16).toNat, ⟨167772160 + y.a % 16, oT (y.o % 8).toNat, s0 y.m, 0, 0, 0, 0, s5 y.m⟩, (167772160 + y.a % 64) - (167772160 + y.a % 64) % Sw.p2 (20 + (8 + y.b % 5) % 13), 20 + (8 + y.b % 5) % 13, ⟨y.o % 4, s0 (y.m / 2), 0, 0, 0, 0, s5 (y.m / 2), 0⟩⟩
theorem evA_ok (y : Ak) (h : y.Ok) : (evA y).Ok := by
  have h1 := h.a
  have h2 := Sw.p2_pos (20 + (8 + y.b % 5) % 13)
  have e1 := Int.mul_ediv_add_emod (167772160 + y.a % 64) (Sw.p2 (20 + (8 + y.b % 5) % 13))
  have e2 := Int.emod_nonneg (167772160 + y.a % 64) (Int.ne_of_gt h2)
  have e3 : 0 ≤ Sw.p2 (20 + (8 + y.b % 5) % 13) * ((167772160 + y.a % 64) / Sw.p2 (20 + (8 + y.b % 5) % 13)) := Int.mul_nonneg (Int.le_of_lt h2) (Int.ediv_nonneg (by omega) (Int.le_of_lt h2))
  refine ⟨⟨?_, ?_, ?_⟩, ?_, ?_⟩
  · show (0 : Int) ≤ 167772160 + y.a % 16; omega
  · show (167772160 : Int) + y.a % 16 < 4294967296; omega
  · show (2 : Nat) ≤ _; omega
  · show (0 : Int) ≤ (167772160 + y.a % 64) - _; omega
  · show (167772160 + y.a % 64) - _ < (4294967296 : Int); omega
def ze : Evt := ⟨0, ⟨0, ⟨#[]⟩, 0, 0, 0, 0, 0, 0⟩, 0, 0, ⟨0, 0, 0, 0, 0, 0, 0, 0⟩⟩
def Akx (y : Ak) : Obj := .cells #[.int .u8 y.q, .int .u8 y.a, .int .u8 y.b, .int .u8 y.m, .int .u8 y.o, .int .u8 y.t] 79
theorem ak_box (w : World) (y : Ak) : Cx (w.alloc (Akx y)) w.heap.size (akl y) := cx_box w _ _ _ rfl
theorem ev_box (w : World) (e : Evt) : Cx (w.alloc (Evx e)) w.heap.size (evl e) := cx_box w _ _ _ rfl
theorem at_storeEv {ops : Array Oper} {rest : List Oper} {o : Oper} {a : Act} {w : World} {Q : Exit → Act → World → Prop} (x y : Operand) (b : Nat) (e e' : Evt) (H : Cx w b (evl e)) (hgd : o.guard = none) (ho : o.op = .store 51 x y) (hx : a.eval x = .pointer (some ⟨b, 0, none⟩)) (hy : a.eval y = evv e')
    (h : ∀ w', Hid (Cx w' b (evl e')) → Hid (∀ B, B ≤ b → Below B w w') → Hid (∀ k, k ≠ b → w'.heap[k]? = w.heap[k]?) → wpList Tryz.prog ops Q rest (a.put o.dst undef) w') : wpList Tryz.prog ops Q (o :: rest) a w :=
  at_put 51 x y b [] (evl e) (evl e') [] (by simpa using H) rfl (by rw [sizeEv]; rfl) (by simp [evl, Value.oneCell']) hgd ho hx hy (fun w' h1 h2 h3 => h w' (Lib.hid (by simpa using h1.out)) h2 h3)
theorem loadvEv {w : World} {b : Nat} {e : Evt} (h : Cx w b (evl e)) : (loadVar 51 ⟨b, 0, none⟩).run Tryz.prog w = .ok (evv e) w := loadv _ _ h Tryz.underlying51 rfl (by rw [sizeEv]; rfl)
def Ktx : Obj := .cells #[.int .i64 0, .int .i64 0, .int .i64 0, .int .i64 1, .int .i64 1, .int .i64 2, .int .i64 3, .int .i64 4, .int .i64 5, .int .i64 5, .int .i64 5, .int .i64 6, .int .i64 6, .int .i64 7, .int .i64 5, .int .i64 8] 38
theorem kt_cell (w : World) (j : Nat) (hj : j < 16) : (w.alloc Ktx).cell? ⟨w.heap.size, j, none⟩ = some (.int .i64 (kt j)) := by
  rcases (show j = 0 ∨ j = 1 ∨ j = 2 ∨ j = 3 ∨ j = 4 ∨ j = 5 ∨ j = 6 ∨ j = 7 ∨ j = 8 ∨ j = 9 ∨ j = 10 ∨ j = 11 ∨ j = 12 ∨ j = 13 ∨ j = 14 ∨ j = 15 by omega) with rfl | rfl | rfl | rfl | rfl | rfl | rfl | rfl | rfl | rfl | rfl | rfl | rfl | rfl | rfl | rfl <;> simp [Ktx, kt]
theorem size_str : (Tryz.prog.info? 9).map (·.size) = some 1 := by kernel_rfl
theorem size_mac : (Tryz.prog.info? 42).map (·.size) = some 6 := by kernel_rfl
theorem size_blk : (Tryz.prog.info? 46).map (·.size) = some 2 := by kernel_rfl
theorem size_sgt : (Tryz.prog.info? 49).map (·.size) = some 8 := by kernel_rfl
theorem run_rem (N n j : Int) (hN : 0 < N ∧ N < 256) (h0 : 0 ≤ n) (h1 : n < 256) (hj : n % N = j) (W : World) : (binOp .rem 5 (.int .u8 n) (.int .u8 N)).run Tryz.prog W = .ok (.int .u8 j) W := by
  have e : n.tmod N = j := by rw [Int.tmod_eq_emod_of_nonneg h0]; exact hj
  have e3 := Int.emod_nonneg n (Int.ne_of_gt hN.1)
  have e4 := Int.emod_lt_of_pos n hN.1
  have e2 : IntKind.u8.wrap j = j := by rw [IntKind.wrap_u8]; omega
  have e5 : N ≠ 0 := Int.ne_of_gt hN.1
  simp [go_sem, e, e2, e5]
theorem at_rem {ops : Array Oper} {rest : List Oper} {o : Oper} {a : Act} {w : World} {Q : Exit → Act → World → Prop} (x y : Operand) (N n j : Int) (hN : 0 < N ∧ N < 256) (h0 : 0 ≤ n) (h1 : n < 256) (hj : n % N = j) (hgd : o.guard = none) (ho : o.op = .binOp .rem 5 x y 5) (hx : a.eval x = .int .u8 n) (hy : a.eval y = .int .u8 N)
    (h : wpList Tryz.prog ops Q rest (a.put o.dst (.int .u8 j)) w) : wpList Tryz.prog ops Q (o :: rest) a w :=
  wpList_plain hgd fun _ hK => by
    unfold Oper.wp execOp
    simp only [ho, hx, hy, Sem.run_bind, Sem.run_pure, Result.andThen_ok, run_rem N n j hN h0 h1 hj]
    exact hK _ _ h
set_option maxRecDepth 100000 in
set_option maxHeartbeats 4000000 in
theorem ev_any (y : Ak) (w : World) (h : y.Ok) : Calls Tryz.prog 25 #[akv y] w fun e w' => e = .returned (evv (evA y)) ∧ Below w.heap.size w w' := by
  obtain ⟨q, a, b, m, o, t⟩ := y
  obtain ⟨⟨hq0, hq1⟩, ⟨ha0, ha1⟩, ⟨hb0, hb1⟩, ⟨hm0, hm1⟩, ⟨ho0, ho1⟩, ⟨ht0, ht1⟩⟩ := h
  dsimp only at hq0 hq1 ha0 ha1 hb0 hb1 hm0 hm1 ho0 ho1 ht0 ht1
  obtain ⟨j, hj⟩ : ∃ j : Nat, q % 16 = j := ⟨(q % 16).toNat, by omega⟩
  have hj16 : j < 16 := by omega
  have hjt : q.tmod 16 = j := by rw [Int.tmod_eq_emod_of_nonneg hq0]; exact hj
  obtain ⟨a16, ha⟩ : ∃ n, a % 16 = n := ⟨_, rfl⟩
  have hat : a.tmod 16 = a16 := by rw [Int.tmod_eq_emod_of_nonneg ha0]; exact ha
  obtain ⟨K, hK⟩ : ∃ n, kt j = n := ⟨_, rfl⟩
  have KC := Lib.hid fun W => hK ▸ kt_cell W j hj16
  have HE := Lib.hid (show evA ⟨q, a, b, m, o, t⟩ = ⟨K, ⟨167772160 + a16, oT (o % 8).toNat, s0 m, 0, 0, 0, 0, s5 m⟩, (167772160 + a % 64) - (167772160 + a % 64) % Sw.p2 (20 + (8 + b % 5) % 13), 20 + (8 + b % 5) % 13, ⟨o % 4, s0 (m / 2), 0, 0, 0, 0, s5 (m / 2), 0⟩⟩ by rw [← hK, ← ha]; unfold evA; dsimp only; rw [hj]; rfl)
  have P0 := Lib.hid (ev_box (w.alloc (Akx ⟨q, a, b, m, o, t⟩)) ze)
  have B0 := Lib.hid (((Below.refl w.heap.size w).alloc (Nat.le_refl _) (Akx ⟨q, a, b, m, o, t⟩)).alloc (by simp) (Evx ze))
  have S0 := Lib.hid (show Cx ((w.alloc (Akx ⟨q, a, b, m, o, t⟩)).alloc (Evx ze)) w.heap.size (akl ⟨q, a, b, m, o, t⟩) from (ak_box w _).keep ((Below.refl (w.alloc (Akx ⟨q, a, b, m, o, t⟩)).heap.size _).alloc (Nat.le_refl _) _) (by simp))
  rw [World.size_alloc] at P0
  have q2 : ((w.alloc (Akx ⟨q, a, b, m, o, t⟩)).alloc (Evx ze)).heap.size = w.heap.size + 1 + 1 := by simp
  unfold akv
  have HS2 := Lib.hid q2
  unfold Akx Evx at *
  simp only [evl, ze] at P0 B0 S0 HS2
  have HR := Lib.hid (And.intro hj ha)
  clear hK hj q2 ha hat hjt
  go_enter Tryz.func25, Tryz.ntmps25
  go_upto_region 1 with fail
  generalize (w.alloc (.cells #[.int .u8 q, .int .u8 a, .int .u8 b, .int .u8 m, .int .u8 o, .int .u8 t] 79)).alloc (.cells #[.int .i64 0, .int .u32 0, .string ⟨#[]⟩, .int .u8 0, .int .u8 0, .int .u8 0, .int .u8 0, .int .u8 0, .int .u8 0, .int .u32 0, .int .i64 0, .int .i64 0, .int .u8 0, .int .u8 0, .int .u8 0, .int .u8 0, .int .u8 0, .int .u8 0, .int .i64 0] 51) = W0 at *
  unfold Ktx at KC
  have B1 := Lib.hid (B0.out.alloc (by rw [HS2.out]; omega) (.cells #[.int .i64 0, .int .i64 0, .int .i64 0, .int .i64 1, .int .i64 1, .int .i64 2, .int .i64 3, .int .i64 4, .int .i64 5, .int .i64 5, .int .i64 5, .int .i64 6, .int .i64 6, .int .i64 7, .int .i64 5, .int .i64 8] 38))
  have S1 := Lib.hid (show Cx (W0.alloc (.cells #[.int .i64 0, .int .i64 0, .int .i64 0, .int .i64 1, .int .i64 1, .int .i64 2, .int .i64 3, .int .i64 4, .int .i64 5, .int .i64 5, .int .i64 5, .int .i64 6, .int .i64 6, .int .i64 7, .int .i64 5, .int .i64 8] 38)) w.heap.size _ from S0.out.keep ((Below.refl W0.heap.size W0).alloc (Nat.le_refl _) _) (by rw [HS2.out]; omega))
  have P1 := Lib.hid (show Cx (W0.alloc (.cells #[.int .i64 0, .int .i64 0, .int .i64 0, .int .i64 1, .int .i64 1, .int .i64 2, .int .i64 3, .int .i64 4, .int .i64 5, .int .i64 5, .int .i64 5, .int .i64 6, .int .i64 6, .int .i64 7, .int .i64 5, .int .i64 8] 38)) (w.heap.size + 1) (evl ze) from P0.out.keep ((Below.refl W0.heap.size W0).alloc (Nat.le_refl _) _) (by rw [HS2.out]; omega))
  have q3 : (W0.alloc (.cells #[.int .i64 0, .int .i64 0, .int .i64 0, .int .i64 1, .int .i64 1, .int .i64 2, .int .i64 3, .int .i64 4, .int .i64 5, .int .i64 5, .int .i64 5, .int .i64 6, .int .i64 6, .int .i64 7, .int .i64 5, .int .i64 8] 38)).heap.size = W0.heap.size + 1 := by simp
  have kc := KC.out W0
  have HS3 := Lib.hid (show w.heap.size + 1 < W0.heap.size ∧ W0.heap.size < (W0.alloc (.cells #[.int .i64 0, .int .i64 0, .int .i64 0, .int .i64 1, .int .i64 1, .int .i64 2, .int .i64 3, .int .i64 4, .int .i64 5, .int .i64 5, .int .i64 5, .int .i64 6, .int .i64 6, .int .i64 7, .int .i64 5, .int .i64 8] 38)).heap.size by rw [q3]; exact ⟨by rw [HS2.out]; omega, by omega⟩)
  clear q3 KC B0 S0 P0 HS2
  have c0 := S1.out.key 0 _ rfl
  have c1 := S1.out.key 1 _ rfl
  go_upto_region 2 with (first | (refine at_rem _ _ 16 q j (by decide) hq0 hq1 HR.out.1 rfl rfl rfl rfl ?_))
  generalize W0.alloc (.cells #[.int .i64 0, .int .i64 0, .int .i64 0, .int .i64 1, .int .i64 1, .int .i64 2, .int .i64 3, .int .i64 4, .int .i64 5, .int .i64 5, .int .i64 5, .int .i64 6, .int .i64 6, .int .i64 7, .int .i64 5, .int .i64 8] 38) = W1 at *
  have h16 : 0 ≤ a16 ∧ a16 < 16 := by have := HR.out.2; omega
  have B2 := Lib.hid (B1.out.alloc B1.out.size (.cells #[.int .i64 0, .int .u32 0, .string ⟨#[]⟩, .int .u8 0, .int .u8 0, .int .u8 0, .int .u8 0, .int .u8 0, .int .u8 0, .int .u32 0, .int .i64 0, .int .i64 0, .int .u8 0, .int .u8 0, .int .u8 0, .int .u8 0, .int .u8 0, .int .u8 0, .int .i64 0] 51))
  have S2 := Lib.hid (show Cx (W1.alloc (.cells #[.int .i64 0, .int .u32 0, .string ⟨#[]⟩, .int .u8 0, .int .u8 0, .int .u8 0, .int .u8 0, .int .u8 0, .int .u8 0, .int .u32 0, .int .i64 0, .int .i64 0, .int .u8 0, .int .u8 0, .int .u8 0, .int .u8 0, .int .u8 0, .int .u8 0, .int .i64 0] 51)) w.heap.size (akl ⟨q, a, b, m, o, t⟩) from S1.out.keep ((Below.refl W1.heap.size W1).alloc (Nat.le_refl _) _) (by have := HS3.out; omega))
  have P2 := Lib.hid (show Cx (W1.alloc (.cells #[.int .i64 0, .int .u32 0, .string ⟨#[]⟩, .int .u8 0, .int .u8 0, .int .u8 0, .int .u8 0, .int .u8 0, .int .u8 0, .int .u32 0, .int .i64 0, .int .i64 0, .int .u8 0, .int .u8 0, .int .u8 0, .int .u8 0, .int .u8 0, .int .u8 0, .int .i64 0] 51)) (w.heap.size + 1) (evl ze) from P1.out.keep ((Below.refl W1.heap.size W1).alloc (Nat.le_refl _) _) (by have := HS3.out; omega))
  have Z2 := Lib.hid (show Cx (W1.alloc (.cells #[.int .i64 0, .int .u32 0, .string ⟨#[]⟩, .int .u8 0, .int .u8 0, .int .u8 0, .int .u8 0, .int .u8 0, .int .u8 0, .int .u32 0, .int .i64 0, .int .i64 0, .int .u8 0, .int .u8 0, .int .u8 0, .int .u8 0, .int .u8 0, .int .u8 0, .int .i64 0] 51)) W1.heap.size (evl ze) from ev_box W1 ze)
  clear kc S1 P1 c0
  go_wp2_with (first | (refine at_rem _ _ 16 a a16 (by decide) ha0 ha1 HR.out.2 rfl rfl rfl rfl ?_) | (refine at_storeEv _ _ W1.heap.size ze ⟨K, ⟨167772160 + a16, ⟨#[]⟩, 0, 0, 0, 0, 0, 0⟩, 0, 0, ⟨0, 0, 0, 0, 0, 0, 0, 0⟩⟩ Z2.out rfl rfl rfl rfl ?_; intro w3 Z3 B3 G3; have P3 := Lib.hid (P2.out.keep (B3.out _ (Nat.le_refl _)) (by have := HS3.out; omega)); have S3 := Lib.hid (S2.out.keep (B3.out _ (Nat.le_refl _)) (by have := HS3.out; omega)); have Y3 := Lib.hid (B2.out.trans (B3.out _ B1.out.size))))
  have HS := Lib.hid fun W => stat_any m W hm0 hm1
  obtain ⟨m0, hm0'⟩ : ∃ n, s0 m = n := ⟨_, rfl⟩
  obtain ⟨m5, hm5'⟩ : ∃ n, s5 m = n := ⟨_, rfl⟩
  rw [hm0', hm5'] at HS HE
  obtain ⟨r, hr⟩ : ∃ r : Nat, o % 8 = r := ⟨(o % 8).toNat, by omega⟩
  have hr8 : r < 8 := by omega
  have hrt : (o % 8).toNat = r := by omega
  rw [hrt] at HE
  have htm : o.tmod 8 = (r : Int) := by rw [Int.tmod_eq_emod_of_nonneg ho0]; exact hr
  have hO := run_oS r hr8
  have hT := run_oT r
  have hW : ((r : Int) + 1) % 256 = (r : Int) + 1 := by omega
  have hsl : ∀ W, (Instr.slice 9 (.string ⟨#[97, 98, 99, 100, 101, 102, 103, 104]⟩) (some (.int .u8 (o % 8))) (some (.int .u8 (o % 8 + 1))) none).run Tryz.prog W = .ok (.string (oS r)) W := fun W => by rw [hr]; exact hO W
  generalize oS r = O at *
  generalize oT r = T at *
  clear hO hm0' hm5' hr hr8 hrt htm hW c1
  have s3 := S3.out.key 3 _ rfl
  have s4 := S3.out.key 4 _ rfl
  have r3 := cell_regrown s3
  have r4 := cell_regrown s4
  have HSR := Lib.hid fun (d : Nat) (os : Array Obj) => Calls.regrown_of (d := d) (os := os) (HS.out (Sort.grow (redrawn w3 d) os))
  refine wp_region_quiet_tail_below 14 (by kernel_rfl) (by kernel_rfl) ?_
  simp only [List.take_succ_cons, List.take_zero, List.drop_succ_cons, List.drop_zero]
  repeat (go_big_quiet_step (first | (go_at_call 48; exact HSR.out _ _)))
  clear hsl hT r3 r4 s3 s4
  refine wpQuiet_nil ?_
  rintro W6 ⟨⟨dq, osq⟩, rfl⟩
  have B6 := Lib.hid (below_regrown w3 dq osq)
  have Z6 := Lib.hid (show Cx _ W1.heap.size (evl ⟨K, ⟨167772160 + a16, ⟨#[]⟩, 0, 0, 0, 0, 0, 0⟩, 0, 0, ⟨0, 0, 0, 0, 0, 0, 0, 0⟩⟩) from Cx.below Z3.out B6.out)
  have P6 := Lib.hid (show Cx _ (w.heap.size + 1) (evl ze) from Cx.below P3.out B6.out)
  have S6 := Lib.hid (show Cx _ w.heap.size (akl ⟨q, a, b, m, o, t⟩) from Cx.below S3.out B6.out)
  have Y6 := Lib.hid (Y3.out.trans (B6.out.mono Y3.out.size))
  generalize Sort.grow (redrawn w3 dq) osq = W6 at *
  clear S3 P3 Z3 Y3 HSR B3 G3 S2 P2 Z2 B6
  go_wp2_with (first | (refine at_put1 9 _ _ W1.heap.size [.int .i64 K, .int .u32 (167772160 + a16)] (.string ⟨#[]⟩) (.string T) [.int .u8 0, .int .u8 0, .int .u8 0, .int .u8 0, .int .u8 0, .int .u8 0, .int .u32 0, .int .i64 0, .int .i64 0, .int .u8 0, .int .u8 0, .int .u8 0, .int .u8 0, .int .u8 0, .int .u8 0, .int .i64 0] Z6.out size_str rfl rfl rfl rfl rfl rfl ?_; intro w7 Z7 B7 G7; have P7 := Lib.hid (P6.out.keep (B7.out _ (Nat.le_refl _)) (by have := HS3.out; omega)); have S7 := Lib.hid (S6.out.keep (B7.out _ (Nat.le_refl _)) (by have := HS3.out; omega)); have Y7 := Lib.hid (Y6.out.trans (B7.out _ (by have := HS3.out; omega)))) | (refine at_put 42 _ _ W1.heap.size [.int .i64 K, .int .u32 (167772160 + a16), .string T] [.int .u8 0, .int .u8 0, .int .u8 0, .int .u8 0, .int .u8 0, .int .u8 0] [.int .u8 m0, .int .u8 0, .int .u8 0, .int .u8 0, .int .u8 0, .int .u8 m5] [.int .u32 0, .int .i64 0, .int .i64 0, .int .u8 0, .int .u8 0, .int .u8 0, .int .u8 0, .int .u8 0, .int .u8 0, .int .i64 0] Z7.out rfl size_mac (by simp [Value.oneCell']) rfl rfl rfl rfl ?_; intro w8 Z8 B8 G8; have P8 := Lib.hid (P7.out.keep (B8.out _ (Nat.le_refl _)) (by have := HS3.out; omega)); have S8 := Lib.hid (S7.out.keep (B8.out _ (Nat.le_refl _)) (by have := HS3.out; omega)); have Y8 := Lib.hid (Y7.out.trans (B8.out _ (by have := HS3.out; omega))); have s1 := S8.out.key 1 _ rfl; have s2 := S8.out.key 2 _ rfl))
  have HB := Lib.hid fun W => Sw.block_any (167772160 + a % 64) (8 + b % 5) W (by omega) (by omega) (by omega) (by omega)
  have HU := Lib.hid fun W => stat_any (m / 2) W (by omega) (by omega)
  obtain ⟨E, hE⟩ : ∃ n, (167772160 + a % 64) - (167772160 + a % 64) % Sw.p2 (20 + (8 + b % 5) % 13) = n := ⟨_, rfl⟩
  rw [hE] at HB HE
  obtain ⟨N, hN⟩ : ∃ n, 20 + (8 + b % 5) % 13 = n := ⟨_, rfl⟩
  rw [hN] at HB HE
  obtain ⟨u0, hu0⟩ : ∃ n, s0 (m / 2) = n := ⟨_, rfl⟩
  obtain ⟨u5, hu5⟩ : ∃ n, s5 (m / 2) = n := ⟨_, rfl⟩
  rw [hu0, hu5] at HU HE
  clear hE hN hu0 hu5
  refine (HB.out _).mono ?_
  rintro e w9 ⟨rfl, hb⟩
  have Z9 := Lib.hid (show Cx w9 W1.heap.size (evl ⟨K, ⟨167772160 + a16, T, m0, 0, 0, 0, 0, m5⟩, 0, 0, ⟨0, 0, 0, 0, 0, 0, 0, 0⟩⟩) from Cx.below (show Cx w8 W1.heap.size (evl ⟨K, ⟨167772160 + a16, T, m0, 0, 0, 0, 0, m5⟩, 0, 0, ⟨0, 0, 0, 0, 0, 0, 0, 0⟩⟩) from Z8.out) hb)
  have P9 := Lib.hid (show Cx w9 (w.heap.size + 1) (evl ze) from Cx.below P8.out hb)
  have S9 := Lib.hid (show Cx w9 w.heap.size (akl ⟨q, a, b, m, o, t⟩) from Cx.below S8.out hb)
  have Y9 := Lib.hid (Y8.out.trans (hb.mono Y8.out.size))
  clear hb Z8 P8 S8 Y8 s1 s2 P7 S7 Z7 Y7 P6 S6 Z6 Y6 B7 G7 B8 G8
  go_wp2_with (first | (refine at_put 46 _ _ W1.heap.size [.int .i64 K, .int .u32 (167772160 + a16), .string T, .int .u8 m0, .int .u8 0, .int .u8 0, .int .u8 0, .int .u8 0, .int .u8 m5] [.int .u32 0, .int .i64 0] [.int .u32 E, .int .i64 N] [.int .i64 0, .int .u8 0, .int .u8 0, .int .u8 0, .int .u8 0, .int .u8 0, .int .u8 0, .int .i64 0] Z9.out rfl size_blk (by simp [Value.oneCell']) rfl rfl rfl rfl ?_; intro v1 Z1 B1' G1; have P1 := Lib.hid (P9.out.keep (B1'.out _ (Nat.le_refl _)) (by have := HS3.out; omega)); have S1 := Lib.hid (S9.out.keep (B1'.out _ (Nat.le_refl _)) (by have := HS3.out; omega)); have Y1 := Lib.hid (Y9.out.trans (B1'.out _ (by have := HS3.out; omega)))))
  have s3 := S1.out.key 3 _ rfl
  have s4 := S1.out.key 4 _ rfl
  have r3 := cell_regrown s3
  have r4 := cell_regrown s4
  have HSR := Lib.hid fun (d : Nat) (os : Array Obj) => Calls.regrown_of (d := d) (os := os) (HU.out (Sort.grow (redrawn v1 d) os))
  simp only [Act.put]
  refine wp_region_quiet_tail_below 9 (by kernel_rfl) (by kernel_rfl) ?_
  simp only [List.take_succ_cons, List.take_zero, List.drop_succ_cons, List.drop_zero]
  repeat (go_big_quiet_step (first | (go_at_call 48; exact HSR.out _ _)))
  clear r3 r4 s3 s4
  refine wpQuiet_nil ?_
  rintro V6 ⟨⟨dq, osq⟩, rfl⟩
  have B6 := Lib.hid (below_regrown v1 dq osq)
  have Z6 := Lib.hid (show Cx _ W1.heap.size (evl ⟨K, ⟨167772160 + a16, T, m0, 0, 0, 0, 0, m5⟩, E, N, ⟨0, 0, 0, 0, 0, 0, 0, 0⟩⟩) from Cx.below (show Cx _ W1.heap.size (evl ⟨K, ⟨167772160 + a16, T, m0, 0, 0, 0, 0, m5⟩, E, N, ⟨0, 0, 0, 0, 0, 0, 0, 0⟩⟩) from Z1.out) B6.out)
  have P6 := Lib.hid (show Cx _ (w.heap.size + 1) (evl ze) from Cx.below P1.out B6.out)
  have Y6 := Lib.hid (Y1.out.trans (B6.out.mono Y1.out.size))
  generalize Sort.grow (redrawn v1 dq) osq = V6 at *
  clear S1 P1 Z1 Y1 HSR B1' G1 B6
  go_wp2_with (first | (refine at_put 49 _ _ W1.heap.size [.int .i64 K, .int .u32 (167772160 + a16), .string T, .int .u8 m0, .int .u8 0, .int .u8 0, .int .u8 0, .int .u8 0, .int .u8 m5, .int .u32 E, .int .i64 N] [.int .i64 0, .int .u8 0, .int .u8 0, .int .u8 0, .int .u8 0, .int .u8 0, .int .u8 0, .int .i64 0] [.int .i64 (o % 4), .int .u8 u0, .int .u8 0, .int .u8 0, .int .u8 0, .int .u8 0, .int .u8 u5, .int .i64 0] [] Z6.out rfl size_sgt (by simp [Value.oneCell']) rfl rfl rfl rfl ?_; intro v7 Z7 B7 G7; have P7 := Lib.hid (P6.out.keep (B7.out _ (Nat.le_refl _)) (by have := HS3.out; omega)); have Y7 := Lib.hid (Y6.out.trans (B7.out _ (by have := HS3.out; omega)))) | (refine at_loadEv _ W1.heap.size ⟨K, ⟨167772160 + a16, T, m0, 0, 0, 0, 0, m5⟩, E, N, ⟨o % 4, u0, 0, 0, 0, 0, u5, 0⟩⟩ Z7.out rfl rfl rfl ?_) | (refine at_storeEv _ _ (w.heap.size + 1) ze ⟨K, ⟨167772160 + a16, T, m0, 0, 0, 0, 0, m5⟩, E, N, ⟨o % 4, u0, 0, 0, 0, 0, u5, 0⟩⟩ P7.out rfl rfl rfl rfl ?_; intro v8 P8 B8 G8))
  refine bodyPost_ret (results_cell rfl _ _ _ _ rfl (loadvEv P8.out)) rfl ?_
  rw [HE.out]
  exact ⟨rfl, Y7.out.trans (B8.out _ (by omega))⟩
end Go.Proofs.YtilneflfeegnfaaGreat
