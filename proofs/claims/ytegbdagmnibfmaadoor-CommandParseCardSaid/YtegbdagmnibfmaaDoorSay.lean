/-
  Commands by numbers as plain data, and the events that they are of: the contracts of the statements' own Station and Event. Conditions: numbers in their bounds.
-/
import Derived.Test.YtegbdagmnibfmaaDoorAwk
import Derived.Test.YtegbdagmnibfmaaDoorQTail
import Derived.Deep.RegionWith
set_option linter.unusedSimpArgs false
set_option linter.unusedVariables false
namespace Go.Proofs.YtegbdagmnibfmaaDoor
open Go.RowKit

/-- A command by numbers. -/
structure Sy where
  wh : Int
  ad : Int
  bi : Int
  ow : Int
  ma : Int
  sp : Int
  t : ByteArray
structure Sok (y : Sy) : Prop where
  wh0 : 0 ≤ y.wh
  wh1 : y.wh < 256
  ad0 : 0 ≤ y.ad
  ad1 : y.ad < 4294967296
  bi0 : 0 ≤ y.bi
  bi1 : y.bi < 256
  ow0 : 0 ≤ y.ow
  ow1 : y.ow < 256
  ma0 : 0 ≤ y.ma
  ma1 : y.ma < 256
  sp0 : 0 ≤ y.sp
  sp1 : y.sp < 256
  ts : y.t.size ≤ maxLen
def syl (y : Sy) : List Value := [.int .u8 y.wh, .int .u32 y.ad, .int .u8 y.bi, .int .u8 y.ow, .int .u8 y.ma, .int .u8 y.sp, .string y.t]
def syv (y : Sy) : Value := .agg #[.int .u8 y.wh, .int .u32 y.ad, .int .u8 y.bi, .int .u8 y.ow, .int .u8 y.ma, .int .u8 y.sp, .string y.t]
def Syx (y : Sy) : Obj := .cells #[.int .u8 y.wh, .int .u32 y.ad, .int .u8 y.bi, .int .u8 y.ow, .int .u8 y.ma, .int .u8 y.sp, .string y.t] 24
theorem sy_box (w : World) (y : Sy) : Cx (w.alloc (Syx y)) w.heap.size (syl y) := cx_box w _ _ _ rfl

/-- The station of a number. -/
def st0 (m : Int) : Int := if 128 ≤ m then 0 else 2
def st5 (m : Int) : Int := if 128 ≤ m then 0 else 1 + m % 3
theorem station_any (m : Int) (w : World) (h0 : 0 ≤ m) (h1 : m < 256) : Calls Tryd.prog 36 #[.int .u8 m] w fun e w' => e = .returned (.agg #[.int .u8 (st0 m), .int .u8 0, .int .u8 0, .int .u8 0, .int .u8 0, .int .u8 (st5 m)]) ∧ Below w.heap.size w w' := by
  by_cases h : 128 ≤ m
  · have H0 := Lib.hid (show st0 m = 0 from if_pos h)
    have H5 := Lib.hid (show st5 m = 0 from if_pos h)
    go_enter Tryd.func36, Tryd.ntmps36
    go_wp2_with fail
    exact bodyPost_ret (v := .agg #[.int .u8 0, .int .u8 0, .int .u8 0, .int .u8 0, .int .u8 0, .int .u8 0]) (by simp [results, Tryd.results36, go_sem]) rfl ⟨by rw [H0.out, H5.out], (Below.refl _ _).alloc (Nat.le_refl _) _⟩
  · have H0 := Lib.hid (show st0 m = 2 from if_neg h)
    have H5 := Lib.hid (show st5 m = 1 + m % 3 from if_neg h)
    go_enter Tryd.func36, Tryd.ntmps36
    go_wp2_with fail
    exact bodyPost_ret (v := .agg #[.int .u8 2, .int .u8 0, .int .u8 0, .int .u8 0, .int .u8 0, .int .u8 (1 + m % 3)]) (by simp [results, Tryd.results36, go_sem]) rfl ⟨by rw [H0.out, H5.out], (Below.refl _ _).alloc (Nat.le_refl _) _⟩

/-- The kind of a number. -/
def ekS (w : Int) : Int := if w % 6 = 0 then 1 else if w % 6 = 1 then 2 else if w % 6 = 2 then 3 else if w % 6 = 3 then 4 else if w % 6 = 4 then 6 else 7
/-- The owner of a number. -/
def owS (w : Int) : ByteArray := (⟨#[97, 98, 99, 100, 101, 102, 103, 104]⟩ : ByteArray).extract 0 (1 + w % 8).toNat
/-- The event of a command by numbers. -/
def evS (y : Sy) : Ev :=
  if ((ekS y.wh == 3) || (ekS y.wh == 4)) = true then ⟨ekS y.wh, 0, ⟨#[]⟩, 0, 0, 0, 0, 0, 0, y.ad - y.ad % Ad.p2 (20 + y.bi % 13), 20 + y.bi % 13⟩
  else if (ekS y.wh == 1) = true then ⟨1, y.ad, owS y.ow, st0 y.ma, 0, 0, 0, 0, st5 y.ma, 0, 0⟩
  else ⟨ekS y.wh, y.ad, ⟨#[]⟩, 0, 0, 0, 0, 0, 0, 0, 0⟩
/-- A remainder that is known. -/
theorem run_rem6 (n j : Int) (h0 : 0 ≤ n) (h1 : n < 256) (hj : n % 6 = j) (W : World) : (binOp .rem 5 (.int .u8 n) (.int .u8 6)).run Tryd.prog W = .ok (.int .u8 j) W := by
  have e : n.tmod 6 = j := by rw [Int.tmod_eq_emod_of_nonneg h0]; exact hj
  have e2 : IntKind.u8.wrap j = j := by rw [IntKind.wrap_u8]; omega
  simp [go_sem, e, e2]
theorem at_rem6 {ops : Array Oper} {rest : List Oper} {o : Oper} {a : Act} {w : World} {Q : Exit → Act → World → Prop} (x y : Operand) (n j : Int) (h0 : 0 ≤ n) (h1 : n < 256) (hj : n % 6 = j) (hgd : o.guard = none) (ho : o.op = .binOp .rem 5 x y 5) (hx : a.eval x = .int .u8 n) (hy : a.eval y = .int .u8 6)
    (h : wpList Tryd.prog ops Q rest (a.put o.dst (.int .u8 j)) w) : wpList Tryd.prog ops Q (o :: rest) a w :=
  wpList_plain hgd fun _ hK => by
    unfold Oper.wp execOp
    simp only [ho, hx, hy, Sem.run_bind, Sem.run_pure, Result.andThen_ok, run_rem6 n j h0 h1 hj]
    exact hK _ _ h

set_option maxRecDepth 100000 in
set_option maxHeartbeats 4000000 in
theorem event_3 (y : Sy) (w : World) (h : Sok y) (hj : y.wh % 6 = 2) : Calls Tryd.prog 14 #[syv y] w fun e w' => e = .returned (evv ⟨3, 0, ⟨#[]⟩, 0, 0, 0, 0, 0, 0, y.ad - y.ad % Ad.p2 (20 + y.bi % 13), 20 + y.bi % 13⟩) ∧ Below w.heap.size w w' := by
  have HR := Lib.hid (And.intro h.wh0 (And.intro h.wh1 hj))
  have HB := Lib.hid fun W => Ad.block_any y.ad y.bi W h.ad0 h.ad1 h.bi0 h.bi1
  have HS := Lib.hid fun W => station_any y.ma W h.ma0 h.ma1
  have P0 := Lib.hid (ev_box (w.alloc (Syx y)) zev)
  have B0 := Lib.hid (((Below.refl w.heap.size w).alloc (Nat.le_refl _) (Syx y)).alloc (by simp) (Evx zev))
  rw [World.size_alloc] at P0
  unfold Syx at *
  clear hj
  unfold syv
  have P1 := Lib.hid (P0.out.belowX ((Below.refl _ _).alloc (Nat.le_refl _) (.cells #[.int .i64 1, .int .i64 2, .int .i64 3, .int .i64 4, .int .i64 6, .int .i64 7] 29)))
  have B1 := Lib.hid (B0.out.alloc B0.out.size (.cells #[.int .i64 1, .int .i64 2, .int .i64 3, .int .i64 4, .int .i64 6, .int .i64 7] 29))
  go_enter Tryd.func14, Tryd.ntmps14
  go_wp2_with (refine at_rem6 _ _ y.wh 2 HR.out.1 HR.out.2.1 HR.out.2.2 rfl rfl rfl rfl ?_)
  refine (HB.out _).mono ?_
  rintro e w2 ⟨rfl, hb⟩
  have P2 := Lib.hid (P1.out.belowX hb)
  have B2 := Lib.hid (B1.out.trans (hb.mono B1.out.size))
  clear hb
  go_wp2_with (refine at_store41 _ _ (w.heap.size + 1) zev ⟨3, 0, ⟨#[]⟩, 0, 0, 0, 0, 0, 0, y.ad - y.ad % Ad.p2 (20 + y.bi % 13), 20 + y.bi % 13⟩ P2.out rfl rfl rfl rfl ?_; intro wy PY BY GY)
  refine bodyPost_ret (results_cell rfl _ _ _ _ rfl (loadv41 PY.out)) rfl ?_
  exact ⟨rfl, B2.out.trans (BY.out _ (by omega))⟩

set_option maxRecDepth 100000 in
set_option maxHeartbeats 4000000 in
theorem event_4 (y : Sy) (w : World) (h : Sok y) (hj : y.wh % 6 = 3) : Calls Tryd.prog 14 #[syv y] w fun e w' => e = .returned (evv ⟨4, 0, ⟨#[]⟩, 0, 0, 0, 0, 0, 0, y.ad - y.ad % Ad.p2 (20 + y.bi % 13), 20 + y.bi % 13⟩) ∧ Below w.heap.size w w' := by
  have HR := Lib.hid (And.intro h.wh0 (And.intro h.wh1 hj))
  have HB := Lib.hid fun W => Ad.block_any y.ad y.bi W h.ad0 h.ad1 h.bi0 h.bi1
  have HS := Lib.hid fun W => station_any y.ma W h.ma0 h.ma1
  have P0 := Lib.hid (ev_box (w.alloc (Syx y)) zev)
  have B0 := Lib.hid (((Below.refl w.heap.size w).alloc (Nat.le_refl _) (Syx y)).alloc (by simp) (Evx zev))
  rw [World.size_alloc] at P0
  unfold Syx at *
  clear hj
  unfold syv
  have P1 := Lib.hid (P0.out.belowX ((Below.refl _ _).alloc (Nat.le_refl _) (.cells #[.int .i64 1, .int .i64 2, .int .i64 3, .int .i64 4, .int .i64 6, .int .i64 7] 29)))
  have B1 := Lib.hid (B0.out.alloc B0.out.size (.cells #[.int .i64 1, .int .i64 2, .int .i64 3, .int .i64 4, .int .i64 6, .int .i64 7] 29))
  go_enter Tryd.func14, Tryd.ntmps14
  go_wp2_with (refine at_rem6 _ _ y.wh 3 HR.out.1 HR.out.2.1 HR.out.2.2 rfl rfl rfl rfl ?_)
  refine (HB.out _).mono ?_
  rintro e w2 ⟨rfl, hb⟩
  have P2 := Lib.hid (P1.out.belowX hb)
  have B2 := Lib.hid (B1.out.trans (hb.mono B1.out.size))
  clear hb
  go_wp2_with (refine at_store41 _ _ (w.heap.size + 1) zev ⟨4, 0, ⟨#[]⟩, 0, 0, 0, 0, 0, 0, y.ad - y.ad % Ad.p2 (20 + y.bi % 13), 20 + y.bi % 13⟩ P2.out rfl rfl rfl rfl ?_; intro wy PY BY GY)
  refine bodyPost_ret (results_cell rfl _ _ _ _ rfl (loadv41 PY.out)) rfl ?_
  exact ⟨rfl, B2.out.trans (BY.out _ (by omega))⟩

set_option maxRecDepth 100000 in
set_option maxHeartbeats 4000000 in
theorem event_2 (y : Sy) (w : World) (h : Sok y) (hj : y.wh % 6 = 1) : Calls Tryd.prog 14 #[syv y] w fun e w' => e = .returned (evv ⟨2, y.ad, ⟨#[]⟩, 0, 0, 0, 0, 0, 0, 0, 0⟩) ∧ Below w.heap.size w w' := by
  have HR := Lib.hid (And.intro h.wh0 (And.intro h.wh1 hj))
  have HB := Lib.hid fun W => Ad.block_any y.ad y.bi W h.ad0 h.ad1 h.bi0 h.bi1
  have HS := Lib.hid fun W => station_any y.ma W h.ma0 h.ma1
  have P0 := Lib.hid (ev_box (w.alloc (Syx y)) zev)
  have B0 := Lib.hid (((Below.refl w.heap.size w).alloc (Nat.le_refl _) (Syx y)).alloc (by simp) (Evx zev))
  rw [World.size_alloc] at P0
  unfold Syx at *
  clear hj
  unfold syv
  have P1 := Lib.hid (P0.out.belowX ((Below.refl _ _).alloc (Nat.le_refl _) (.cells #[.int .i64 1, .int .i64 2, .int .i64 3, .int .i64 4, .int .i64 6, .int .i64 7] 29)))
  have B1 := Lib.hid (B0.out.alloc B0.out.size (.cells #[.int .i64 1, .int .i64 2, .int .i64 3, .int .i64 4, .int .i64 6, .int .i64 7] 29))
  have P2 := Lib.hid (P1.out.belowX ((Below.refl _ _).alloc (Nat.le_refl _) (Evx zev)))
  have B2 := Lib.hid (B1.out.alloc B1.out.size (Evx zev))
  have Z2 := Lib.hid (ev_box (((w.alloc (.cells #[.int .u8 y.wh, .int .u32 y.ad, .int .u8 y.bi, .int .u8 y.ow, .int .u8 y.ma, .int .u8 y.sp, .string y.t] 24)).alloc (Evx zev)).alloc (.cells #[.int .i64 1, .int .i64 2, .int .i64 3, .int .i64 4, .int .i64 6, .int .i64 7] 29)) zev)
  rw [World.size_alloc, World.size_alloc, World.size_alloc] at Z2
  go_enter Tryd.func14, Tryd.ntmps14
  go_wp2_with (first | (refine at_rem6 _ _ y.wh 1 HR.out.1 HR.out.2.1 HR.out.2.2 rfl rfl rfl rfl ?_) | (refine at_store41 _ _ (w.heap.size + 1 + 1 + 1) zev ⟨2, y.ad, ⟨#[]⟩, 0, 0, 0, 0, 0, 0, 0, 0⟩ Z2.out rfl rfl rfl rfl ?_; intro w3 Z3 B3 G3; have P3 := Lib.hid (P2.out.keep (B3.out _ (Nat.le_refl _)) (by omega))) | (refine at_load41 _ (w.heap.size + 1 + 1 + 1) ⟨2, y.ad, ⟨#[]⟩, 0, 0, 0, 0, 0, 0, 0, 0⟩ Z3.out rfl rfl rfl ?_) | (refine at_store41 _ _ (w.heap.size + 1) zev ⟨2, y.ad, ⟨#[]⟩, 0, 0, 0, 0, 0, 0, 0, 0⟩ P3.out rfl rfl rfl rfl ?_; intro wy PY BY GY))
  refine bodyPost_ret (results_cell rfl _ _ _ _ rfl (loadv41 PY.out)) rfl ?_
  exact ⟨rfl, (B2.out.trans (B3.out _ (by omega))).trans (BY.out _ (by omega))⟩

set_option maxRecDepth 100000 in
set_option maxHeartbeats 4000000 in
theorem event_6 (y : Sy) (w : World) (h : Sok y) (hj : y.wh % 6 = 4) : Calls Tryd.prog 14 #[syv y] w fun e w' => e = .returned (evv ⟨6, y.ad, ⟨#[]⟩, 0, 0, 0, 0, 0, 0, 0, 0⟩) ∧ Below w.heap.size w w' := by
  have HR := Lib.hid (And.intro h.wh0 (And.intro h.wh1 hj))
  have HB := Lib.hid fun W => Ad.block_any y.ad y.bi W h.ad0 h.ad1 h.bi0 h.bi1
  have HS := Lib.hid fun W => station_any y.ma W h.ma0 h.ma1
  have P0 := Lib.hid (ev_box (w.alloc (Syx y)) zev)
  have B0 := Lib.hid (((Below.refl w.heap.size w).alloc (Nat.le_refl _) (Syx y)).alloc (by simp) (Evx zev))
  rw [World.size_alloc] at P0
  unfold Syx at *
  clear hj
  unfold syv
  have P1 := Lib.hid (P0.out.belowX ((Below.refl _ _).alloc (Nat.le_refl _) (.cells #[.int .i64 1, .int .i64 2, .int .i64 3, .int .i64 4, .int .i64 6, .int .i64 7] 29)))
  have B1 := Lib.hid (B0.out.alloc B0.out.size (.cells #[.int .i64 1, .int .i64 2, .int .i64 3, .int .i64 4, .int .i64 6, .int .i64 7] 29))
  have P2 := Lib.hid (P1.out.belowX ((Below.refl _ _).alloc (Nat.le_refl _) (Evx zev)))
  have B2 := Lib.hid (B1.out.alloc B1.out.size (Evx zev))
  have Z2 := Lib.hid (ev_box (((w.alloc (.cells #[.int .u8 y.wh, .int .u32 y.ad, .int .u8 y.bi, .int .u8 y.ow, .int .u8 y.ma, .int .u8 y.sp, .string y.t] 24)).alloc (Evx zev)).alloc (.cells #[.int .i64 1, .int .i64 2, .int .i64 3, .int .i64 4, .int .i64 6, .int .i64 7] 29)) zev)
  rw [World.size_alloc, World.size_alloc, World.size_alloc] at Z2
  go_enter Tryd.func14, Tryd.ntmps14
  go_wp2_with (first | (refine at_rem6 _ _ y.wh 4 HR.out.1 HR.out.2.1 HR.out.2.2 rfl rfl rfl rfl ?_) | (refine at_store41 _ _ (w.heap.size + 1 + 1 + 1) zev ⟨6, y.ad, ⟨#[]⟩, 0, 0, 0, 0, 0, 0, 0, 0⟩ Z2.out rfl rfl rfl rfl ?_; intro w3 Z3 B3 G3; have P3 := Lib.hid (P2.out.keep (B3.out _ (Nat.le_refl _)) (by omega))) | (refine at_load41 _ (w.heap.size + 1 + 1 + 1) ⟨6, y.ad, ⟨#[]⟩, 0, 0, 0, 0, 0, 0, 0, 0⟩ Z3.out rfl rfl rfl ?_) | (refine at_store41 _ _ (w.heap.size + 1) zev ⟨6, y.ad, ⟨#[]⟩, 0, 0, 0, 0, 0, 0, 0, 0⟩ P3.out rfl rfl rfl rfl ?_; intro wy PY BY GY))
  refine bodyPost_ret (results_cell rfl _ _ _ _ rfl (loadv41 PY.out)) rfl ?_
  exact ⟨rfl, (B2.out.trans (B3.out _ (by omega))).trans (BY.out _ (by omega))⟩

set_option maxRecDepth 100000 in
set_option maxHeartbeats 4000000 in
theorem event_7 (y : Sy) (w : World) (h : Sok y) (hj : y.wh % 6 = 5) : Calls Tryd.prog 14 #[syv y] w fun e w' => e = .returned (evv ⟨7, y.ad, ⟨#[]⟩, 0, 0, 0, 0, 0, 0, 0, 0⟩) ∧ Below w.heap.size w w' := by
  have HR := Lib.hid (And.intro h.wh0 (And.intro h.wh1 hj))
  have HB := Lib.hid fun W => Ad.block_any y.ad y.bi W h.ad0 h.ad1 h.bi0 h.bi1
  have HS := Lib.hid fun W => station_any y.ma W h.ma0 h.ma1
  have P0 := Lib.hid (ev_box (w.alloc (Syx y)) zev)
  have B0 := Lib.hid (((Below.refl w.heap.size w).alloc (Nat.le_refl _) (Syx y)).alloc (by simp) (Evx zev))
  rw [World.size_alloc] at P0
  unfold Syx at *
  clear hj
  unfold syv
  have P1 := Lib.hid (P0.out.belowX ((Below.refl _ _).alloc (Nat.le_refl _) (.cells #[.int .i64 1, .int .i64 2, .int .i64 3, .int .i64 4, .int .i64 6, .int .i64 7] 29)))
  have B1 := Lib.hid (B0.out.alloc B0.out.size (.cells #[.int .i64 1, .int .i64 2, .int .i64 3, .int .i64 4, .int .i64 6, .int .i64 7] 29))
  have P2 := Lib.hid (P1.out.belowX ((Below.refl _ _).alloc (Nat.le_refl _) (Evx zev)))
  have B2 := Lib.hid (B1.out.alloc B1.out.size (Evx zev))
  have Z2 := Lib.hid (ev_box (((w.alloc (.cells #[.int .u8 y.wh, .int .u32 y.ad, .int .u8 y.bi, .int .u8 y.ow, .int .u8 y.ma, .int .u8 y.sp, .string y.t] 24)).alloc (Evx zev)).alloc (.cells #[.int .i64 1, .int .i64 2, .int .i64 3, .int .i64 4, .int .i64 6, .int .i64 7] 29)) zev)
  rw [World.size_alloc, World.size_alloc, World.size_alloc] at Z2
  go_enter Tryd.func14, Tryd.ntmps14
  go_wp2_with (first | (refine at_rem6 _ _ y.wh 5 HR.out.1 HR.out.2.1 HR.out.2.2 rfl rfl rfl rfl ?_) | (refine at_store41 _ _ (w.heap.size + 1 + 1 + 1) zev ⟨7, y.ad, ⟨#[]⟩, 0, 0, 0, 0, 0, 0, 0, 0⟩ Z2.out rfl rfl rfl rfl ?_; intro w3 Z3 B3 G3; have P3 := Lib.hid (P2.out.keep (B3.out _ (Nat.le_refl _)) (by omega))) | (refine at_load41 _ (w.heap.size + 1 + 1 + 1) ⟨7, y.ad, ⟨#[]⟩, 0, 0, 0, 0, 0, 0, 0, 0⟩ Z3.out rfl rfl rfl ?_) | (refine at_store41 _ _ (w.heap.size + 1) zev ⟨7, y.ad, ⟨#[]⟩, 0, 0, 0, 0, 0, 0, 0, 0⟩ P3.out rfl rfl rfl rfl ?_; intro wy PY BY GY))
  refine bodyPost_ret (results_cell rfl _ _ _ _ rfl (loadv41 PY.out)) rfl ?_
  exact ⟨rfl, (B2.out.trans (B3.out _ (by omega))).trans (BY.out _ (by omega))⟩

set_option maxRecDepth 100000 in
set_option maxHeartbeats 4000000 in
theorem event_1 (y : Sy) (w : World) (h : Sok y) (hj : y.wh % 6 = 0) : Calls Tryd.prog 14 #[syv y] w fun e w' => e = .returned (evv ⟨1, y.ad, owS y.ow, st0 y.ma, 0, 0, 0, 0, st5 y.ma, 0, 0⟩) ∧ Below w.heap.size w w' := by
  have HR := Lib.hid (And.intro h.wh0 (And.intro h.wh1 hj))
  have HB := Lib.hid fun W => Ad.block_any y.ad y.bi W h.ad0 h.ad1 h.bi0 h.bi1
  have HS := Lib.hid fun W => station_any y.ma W h.ma0 h.ma1
  have P0 := Lib.hid (ev_box (w.alloc (Syx y)) zev)
  have B0 := Lib.hid (((Below.refl w.heap.size w).alloc (Nat.le_refl _) (Syx y)).alloc (by simp) (Evx zev))
  rw [World.size_alloc] at P0
  unfold Syx at *
  clear hj
  unfold syv
  obtain ⟨m0, hm0⟩ : ∃ m, st0 y.ma = m := ⟨_, rfl⟩
  obtain ⟨m5, hm5⟩ : ∃ m, st5 y.ma = m := ⟨_, rfl⟩
  rw [hm0, hm5] at HS
  have HMM := Lib.hid (And.intro hm0 hm5)
  clear hm0 hm5
  have P1 := Lib.hid (P0.out.belowX ((Below.refl _ _).alloc (Nat.le_refl _) (.cells #[.int .i64 1, .int .i64 2, .int .i64 3, .int .i64 4, .int .i64 6, .int .i64 7] 29)))
  have B1 := Lib.hid (B0.out.alloc B0.out.size (.cells #[.int .i64 1, .int .i64 2, .int .i64 3, .int .i64 4, .int .i64 6, .int .i64 7] 29))
  have P2 := Lib.hid (P1.out.belowX ((Below.refl _ _).alloc (Nat.le_refl _) (Evx zev)))
  have B2 := Lib.hid (B1.out.alloc B1.out.size (Evx zev))
  have Z2 := Lib.hid (ev_box (((w.alloc (.cells #[.int .u8 y.wh, .int .u32 y.ad, .int .u8 y.bi, .int .u8 y.ow, .int .u8 y.ma, .int .u8 y.sp, .string y.t] 24)).alloc (Evx zev)).alloc (.cells #[.int .i64 1, .int .i64 2, .int .i64 3, .int .i64 4, .int .i64 6, .int .i64 7] 29)) zev)
  rw [World.size_alloc, World.size_alloc, World.size_alloc] at Z2
  have S2 := Lib.hid (show Cx _ w.heap.size (syl y) from ((sy_box w y).keep (((Below.refl (w.alloc (Syx y)).heap.size (w.alloc (Syx y))).alloc (Nat.le_refl _) (Evx zev)).alloc (by simp) (.cells #[.int .i64 1, .int .i64 2, .int .i64 3, .int .i64 4, .int .i64 6, .int .i64 7] 29)) (by simp)).keep ((Below.refl (w.heap.size + 1) _).alloc (by simp) (Evx zev)) (by omega))
  go_enter Tryd.func14, Tryd.ntmps14
  go_wp2_with (first | (refine at_rem6 _ _ y.wh 0 HR.out.1 HR.out.2.1 HR.out.2.2 rfl rfl rfl rfl ?_) | (refine at_store41 _ _ (w.heap.size + 1 + 1 + 1) zev ⟨1, y.ad, ⟨#[]⟩, 0, 0, 0, 0, 0, 0, 0, 0⟩ Z2.out rfl rfl rfl rfl ?_; intro w3 Z3 B3 G3; have P3 := Lib.hid (P2.out.keep (B3.out _ (Nat.le_refl _)) (by omega)); have S3 := Lib.hid (S2.out.keep (B3.out _ (Nat.le_refl _)) (by omega))))
  have s3 := S3.out.key 3 _ rfl
  have s4 := S3.out.key 4 _ rfl
  obtain ⟨O, hO⟩ : ∃ O, O = owS y.ow := ⟨_, rfl⟩
  have HOO := Lib.hid hO
  have r3 := cell_regrown s3
  have r4 := cell_regrown s4
  have HSR := Lib.hid fun (d : Nat) (os : Array Obj) => Calls.regrown_of (d := d) (os := os) (HS.out (Sort.grow (redrawn w3 d) os))
  have hq : IntKind.u8.wrap (1 + y.ow % 8) = 1 + y.ow % 8 := by rw [IntKind.wrap_u8]; omega
  have htm : (1 + y.ow.tmod 8) % 256 = 1 + y.ow % 8 := by rw [Int.tmod_eq_emod_of_nonneg h.ow0]; omega
  have hsl : ∀ W, (Instr.slice 9 (.string ⟨#[97, 98, 99, 100, 101, 102, 103, 104]⟩) none (some (.int .u8 ((1 + y.ow.tmod 8) % 256))) none).run Tryd.prog W = .ok (.string O) W := fun W => by rw [hO, htm]; exact run_slice_string_h (P := Tryd.prog) (w := W) 9 ⟨#[97, 98, 99, 100, 101, 102, 103, 104]⟩ Tryd.underlying9 .u8 (1 + y.ow % 8) (by omega) (by show 1 + y.ow % 8 ≤ 8; omega)
  clear htm hO
  refine wp_region_quiet_tail_below 10 (by kernel_rfl) (by kernel_rfl) ?_
  simp only [List.take_succ_cons, List.take_zero, List.drop_succ_cons, List.drop_zero]
  repeat (go_big_quiet_step (first | (go_at_call 36; exact HSR.out _ _)))
  clear hsl hq r3 r4 s3 s4
  refine wpQuiet_nil ?_
  rintro W6 ⟨⟨dq, osq⟩, rfl⟩
  have B6 := Lib.hid (below_regrown w3 dq osq)
  have Z6 := Lib.hid (Z3.out.belowX B6.out)
  have P6 := Lib.hid (P3.out.belowX B6.out)
  generalize Sort.grow (redrawn w3 dq) osq = W6 at *
  have z2 := Z6.out.key 2 _ rfl
  have f2 := Z6.out.fr 2 (by simp [evl])
  have Z7 := Lib.hid (show Cx (W6.setCell ⟨w.heap.size + 1 + 1 + 1, 2, none⟩ (.string O)) (w.heap.size + 1 + 1 + 1) (evl (⟨1, y.ad, O, 0, 0, 0, 0, 0, 0, 0, 0⟩ : Ev)) from Cx.put (p := [.int .i64 1, .int .u32 y.ad]) (old := [.string ⟨#[]⟩]) (s := [.int .u8 0, .int .u8 0, .int .u8 0, .int .u8 0, .int .u8 0, .int .u8 0, .int .u32 0, .int .i64 0, .int .i64 0, .int .u8 0, .int .u8 0, .int .u8 0, .int .u8 0, .int .u8 0, .int .u8 0, .int .i64 0]) [.string O] Z6.out rfl)
  have P7 := Lib.hid (show Cx (W6.setCell ⟨w.heap.size + 1 + 1 + 1, 2, none⟩ (.string O)) (w.heap.size + 1) (evl zev) from P6.out.keep (B := w.heap.size + 1 + 1 + 1) ((Below.refl (w.heap.size + 1 + 1 + 1) _).setCell (show w.heap.size + 1 + 1 + 1 ≤ w.heap.size + 1 + 1 + 1 from Nat.le_refl _) _) (by omega))
  have B7 := Lib.hid (show Below w.heap.size w (W6.setCell ⟨w.heap.size + 1 + 1 + 1, 2, none⟩ (.string O)) from (((B2.out.trans (B3.out _ (by omega))).trans (B6.out.mono (B2.out.trans (B3.out _ (by omega))).size)).setCell (show w.heap.size ≤ w.heap.size + 1 + 1 + 1 by omega) _))
  go_wp2_with (first | (refine at_put 32 _ _ (w.heap.size + 1 + 1 + 1) [.int .i64 1, .int .u32 y.ad, .string O] [.int .u8 0, .int .u8 0, .int .u8 0, .int .u8 0, .int .u8 0, .int .u8 0] [.int .u8 m0, .int .u8 0, .int .u8 0, .int .u8 0, .int .u8 0, .int .u8 m5] [.int .u32 0, .int .i64 0, .int .i64 0, .int .u8 0, .int .u8 0, .int .u8 0, .int .u8 0, .int .u8 0, .int .u8 0, .int .i64 0] Z7.out rfl size32 (by simp [Value.oneCell']) rfl rfl rfl rfl ?_; intro w8 Z8 B8 G8; have P8 := Lib.hid (P7.out.keep (B8.out _ (Nat.le_refl _)) (by omega))) | (refine at_load41 _ (w.heap.size + 1 + 1 + 1) ⟨1, y.ad, O, m0, 0, 0, 0, 0, m5, 0, 0⟩ Z8.out rfl rfl rfl ?_) | (refine at_store41 _ _ (w.heap.size + 1) zev ⟨1, y.ad, O, m0, 0, 0, 0, 0, m5, 0, 0⟩ P8.out rfl rfl rfl rfl ?_; intro wy PY BY GY))
  refine bodyPost_ret (results_cell rfl _ _ _ _ rfl (loadv41 PY.out)) rfl ?_
  exact ⟨by rw [HOO.out, HMM.out.1, HMM.out.2], (B7.out.trans (B8.out _ (by omega))).trans (BY.out _ (by omega))⟩

theorem ek_cases (w : Int) (h0 : 0 ≤ w) : (w % 6 = 0 ∧ ekS w = 1) ∨ (w % 6 = 1 ∧ ekS w = 2) ∨ (w % 6 = 2 ∧ ekS w = 3) ∨ (w % 6 = 3 ∧ ekS w = 4) ∨ (w % 6 = 4 ∧ ekS w = 6) ∨ (w % 6 = 5 ∧ ekS w = 7) := by
  unfold ekS
  have : w % 6 = 0 ∨ w % 6 = 1 ∨ w % 6 = 2 ∨ w % 6 = 3 ∨ w % 6 = 4 ∨ w % 6 = 5 := by omega
  rcases this with h | h | h | h | h | h <;> simp [h]
theorem ek_kd (w : Int) (h0 : 0 ≤ w) : Kd (ekS w) := by
  unfold Kd
  rcases ek_cases w h0 with ⟨_, h⟩ | ⟨_, h⟩ | ⟨_, h⟩ | ⟨_, h⟩ | ⟨_, h⟩ | ⟨_, h⟩ <;> omega
theorem event_any (y : Sy) (w : World) (h : Sok y) : Calls Tryd.prog 14 #[syv y] w fun e w' => e = .returned (evv (evS y)) ∧ Below w.heap.size w w' := by
  rcases ek_cases y.wh h.wh0 with ⟨hj, e⟩ | ⟨hj, e⟩ | ⟨hj, e⟩ | ⟨hj, e⟩ | ⟨hj, e⟩ | ⟨hj, e⟩
  · rw [show evS y = ⟨1, y.ad, owS y.ow, st0 y.ma, 0, 0, 0, 0, st5 y.ma, 0, 0⟩ by unfold evS; rw [e, if_neg (by decide), if_pos (by decide)]]
    exact event_1 y w h hj
  · rw [show evS y = ⟨2, y.ad, ⟨#[]⟩, 0, 0, 0, 0, 0, 0, 0, 0⟩ by unfold evS; rw [e, if_neg (by decide), if_neg (by decide)]]
    exact event_2 y w h hj
  · rw [show evS y = ⟨3, 0, ⟨#[]⟩, 0, 0, 0, 0, 0, 0, y.ad - y.ad % Ad.p2 (20 + y.bi % 13), 20 + y.bi % 13⟩ by unfold evS; rw [e, if_pos (by decide)]]
    exact event_3 y w h hj
  · rw [show evS y = ⟨4, 0, ⟨#[]⟩, 0, 0, 0, 0, 0, 0, y.ad - y.ad % Ad.p2 (20 + y.bi % 13), 20 + y.bi % 13⟩ by unfold evS; rw [e, if_pos (by decide)]]
    exact event_4 y w h hj
  · rw [show evS y = ⟨6, y.ad, ⟨#[]⟩, 0, 0, 0, 0, 0, 0, 0, 0⟩ by unfold evS; rw [e, if_neg (by decide), if_neg (by decide)]]
    exact event_6 y w h hj
  · rw [show evS y = ⟨7, y.ad, ⟨#[]⟩, 0, 0, 0, 0, 0, 0, 0, 0⟩ by unfold evS; rw [e, if_neg (by decide), if_neg (by decide)]]
    exact event_7 y w h hj

theorem cut_p2 (a b : Int) (h0 : 0 ≤ a) (h1 : a < 4294967296) (b0 : 0 ≤ b) (b1 : b ≤ 32) : 0 ≤ a - a % Ad.p2 b ∧ a - a % Ad.p2 b < 4294967296 ∧ Ad.okB (a - a % Ad.p2 b) b = true := by
  have hp := Ad.p2_pos b
  have e1 := Int.mul_ediv_add_emod a (Ad.p2 b)
  have e2 := Int.emod_nonneg a (Int.ne_of_gt hp)
  have e3 : 0 ≤ Ad.p2 b * (a / Ad.p2 b) := Int.mul_nonneg (Int.le_of_lt hp) (Int.ediv_nonneg h0 (Int.le_of_lt hp))
  have e4 : a - a % Ad.p2 b = Ad.p2 b * (a / Ad.p2 b) := by omega
  refine ⟨by omega, by omega, Ad.ok_iff.2 ⟨b0, b1, ?_⟩⟩
  rw [e4]
  exact Int.mul_emod_right _ _
theorem ow_may (w : Int) (h0 : 0 ≤ w) : Hd.mayB (owS w) = true := by
  unfold owS
  have : w % 8 = 0 ∨ w % 8 = 1 ∨ w % 8 = 2 ∨ w % 8 = 3 ∨ w % 8 = 4 ∨ w % 8 = 5 ∨ w % 8 = 6 ∨ w % 8 = 7 := by omega
  rcases this with h | h | h | h | h | h | h | h <;> rw [h] <;> decide +kernel
theorem ev_valid (y : Sy) (h : Sok y) : Ve (evS y) := by
  have hc := cut_p2 y.ad (20 + y.bi % 13) h.ad0 h.ad1 (by omega) (by omega)
  rcases ek_cases y.wh h.wh0 with ⟨hj, e⟩ | ⟨hj, e⟩ | ⟨hj, e⟩ | ⟨hj, e⟩ | ⟨hj, e⟩ | ⟨hj, e⟩
  · rw [show evS y = ⟨1, y.ad, owS y.ow, st0 y.ma, 0, 0, 0, 0, st5 y.ma, 0, 0⟩ by unfold evS; rw [e, if_neg (by decide), if_pos (by decide)]]
    refine .inr (.inr ⟨rfl, rfl, h.ad0, h.ad1, ow_may y.ow h.ow0, ?_, .inr ?_⟩)
    · have := h.ma0
      have := h.ma1
      constructor <;> (try unfold st0) <;> (try unfold st5) <;> (try dsimp only) <;> (try split) <;> omega
    · show (st0 y.ma % 2 == 1) = false
      unfold st0
      split <;> decide
  · rw [show evS y = ⟨2, y.ad, ⟨#[]⟩, 0, 0, 0, 0, 0, 0, 0, 0⟩ by unfold evS; rw [e, if_neg (by decide), if_neg (by decide)]]
    exact .inr (.inl ⟨.inl rfl, rfl, h.ad0, h.ad1⟩)
  · rw [show evS y = ⟨3, 0, ⟨#[]⟩, 0, 0, 0, 0, 0, 0, y.ad - y.ad % Ad.p2 (20 + y.bi % 13), 20 + y.bi % 13⟩ by unfold evS; rw [e, if_pos (by decide)]]
    exact .inl ⟨rfl, rfl, hc.1, hc.2.1, hc.2.2⟩
  · rw [show evS y = ⟨4, 0, ⟨#[]⟩, 0, 0, 0, 0, 0, 0, y.ad - y.ad % Ad.p2 (20 + y.bi % 13), 20 + y.bi % 13⟩ by unfold evS; rw [e, if_pos (by decide)]]
    exact .inl ⟨rfl, rfl, hc.1, hc.2.1, hc.2.2⟩
  · rw [show evS y = ⟨6, y.ad, ⟨#[]⟩, 0, 0, 0, 0, 0, 0, 0, 0⟩ by unfold evS; rw [e, if_neg (by decide), if_neg (by decide)]]
    exact .inr (.inl ⟨.inr (.inl rfl), rfl, h.ad0, h.ad1⟩)
  · rw [show evS y = ⟨7, y.ad, ⟨#[]⟩, 0, 0, 0, 0, 0, 0, 0, 0⟩ by unfold evS; rw [e, if_neg (by decide), if_neg (by decide)]]
    exact .inr (.inl ⟨.inr (.inr rfl), rfl, h.ad0, h.ad1⟩)
end Go.Proofs.YtegbdagmnibfmaaDoor
