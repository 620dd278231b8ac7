/-
  Contracts of New, fields, nearest and Fit, and of the statements' own small choices. Conditions: bytes are bytes.
-/
import Derived.Test.YtfleppahimlbgaaBase
import Derived.Test.YtfleppahimlbgaaQTail
namespace Go.Proofs.Ytfleppahimlbgaa
open Go.RowKit

theorem nearest_any (n l h : Int) (w : World) : Calls Try.prog 14 #[.int .i64 n, .int .i64 l, .int .i64 h] w fun e w' => e = .returned (.int .i64 (ne n l h)) ∧ w = w' := by
  have E := Lib.hid (show min (max n l) h = ne n l h from rfl)
  go_enter Try.func14, Try.ntmps14
  go_wp2
  go_ret
  exact ⟨ret_int E.out, rfl⟩

theorem still {f : FuncId} {args : Array Value} {w : World} {v : Value} (h : Calls Try.prog f args w fun e w' => e = .returned v ∧ w = w') : Calls Try.prog f args w fun e w' => e = .returned v ∧ w' = w := h.mono fun _ _ ⟨a, b⟩ => ⟨a, b.symm⟩

def nw : Cf := ⟨20, 60, 2, 10, 4, 3, 1, 30, 40⟩
theorem nw_ok : Ok nw := by constructor <;> decide
theorem new_any (w : World) : Calls Try.prog 11 #[] w fun e w' => e = .returned (cv nw) ∧ Below w.heap.size w w' := by
  have P0 := Lib.hid (cb_box w z9 23)
  have B0 := Lib.hid ((Below.refl w.heap.size w).alloc (Nat.le_refl _) (Cx z9 23))
  go_enter Try.func11, Try.ntmps11
  go_wp2_with (refine at_store23 _ _ _ z9 nw P0.out rfl rfl rfl rfl ?_; intro w2 P2 B2)
  refine bodyPost_ret (results_cell rfl _ _ _ _ rfl (load23 P2.out.1)) rfl ?_
  exact ⟨rfl, B0.out.trans (B2.out _ (Nat.le_refl _))⟩

theorem fields_any (x : Cf) (w : World) : Calls Try.prog 13 #[cv x] w fun e w' => e = .returned (cv x) ∧ Below w.heap.size w w' := by
  have P0 := Lib.hid (cb_box (w.alloc (Cx x 23)) z9 38)
  have B0 := Lib.hid (((Below.refl w.heap.size w).alloc (Nat.le_refl _) (Cx x 23)).alloc (by simp) (Cx z9 38))
  rw [World.size_alloc] at P0
  unfold cv
  go_enter Try.func13, Try.ntmps13
  go_wp2_with (refine at_store38 _ _ _ z9 x P0.out rfl rfl rfl rfl ?_; intro w2 P2 B2)
  refine bodyPost_ret (results_cell rfl _ _ _ _ rfl (load38 P2.out.1)) rfl ?_
  exact ⟨rfl, B0.out.trans (B2.out _ (by omega))⟩

theorem fit_any (x : Cf) (w : World) : Calls Try.prog 12 #[cv x] w fun e w' => e = .returned (cv (ft x)) ∧ Below w.heap.size w w' := by
  have N := Lib.hid nearest_any
  have NQ := Lib.hid fun n l h W m => Calls.quiet_of_same (w := W) (n := m) (still (nearest_any n l h (W.drewN m)))
  have P0 := Lib.hid (cb_box (w.alloc (Cx x 23)) z9 23)
  have B0 := Lib.hid (((Below.refl w.heap.size w).alloc (Nat.le_refl _) (Cx x 23)).alloc (by simp) (Cx z9 23))
  have K := Lib.hid ((cm_box w x 23).below ((Below.refl _ (w.alloc (Cx x 23))).alloc (Nat.le_refl _) (Cx z9 23)))
  rw [World.size_alloc] at P0
  have E1 := Lib.hid (show ne x.a 1 1000 = (ft x).a from rfl)
  unfold cv
  go_enter Try.func12, Try.ntmps12
  go_wp2_with fail
  refine (N.out _ _ _ _).mono ?_
  rintro e w1 ⟨rfl, rfl⟩
  go_upto_region 2 with fail
  obtain ⟨c0, c1, c2, c3, c4, c5, c6, c7, c8⟩ := K.out.c
  have E := Lib.hid (show cv ⟨(ft x).a, ne x.b (ft x).a 10000, ne x.c 1 6, ne x.d 1 1000, ne x.e 1 64, ne x.f 1 100, ne x.g 0 8, ne x.h 1 1000, ne x.i 0 1000⟩ = cv (ft x) from rfl)
  rw [E1.out]
  change (Code.region _ _ _).wp _ _ _ ((w.alloc (Cx x 23)).alloc (Cx z9 23))
  generalize (w.alloc (Cx x 23)).alloc (Cx z9 23) = w1 at *
  refine wp_region_quiet_tail_lit 26 (by kernel_rfl) (by kernel_rfl) ?_
  simp only [List.take_succ_cons, List.take_zero, List.drop_succ_cons, List.drop_zero]
  repeat (go_big_quiet_step ((go_at_call 14; with_reducible exact NQ.out _ _ _ _ _)))
  refine wpQuiet_nil ?_
  rintro w2 ⟨n2, rfl⟩
  clear c0 c1 c2 c3 c4 c5 c6 c7 c8
  have P1 := Lib.hid (P0.out.drewN n2)
  go_wp2_with (refine at_store23 _ _ _ z9 (ft x) P1.out rfl rfl rfl E.out ?_; intro w3 P3 B3)
  refine bodyPost_ret (results_cell rfl _ _ _ _ rfl (load23 P3.out.1)) rfl ?_
  exact ⟨rfl, (below_drewN B0.out n2).trans (B3.out _ (by omega))⟩

/-- A value of nine bytes. -/
def hv (y : Hc) : Value := .agg #[.int .u8 y.a, .int .u8 y.b, .int .u8 y.c, .int .u8 y.d, .int .u8 y.e, .int .u8 y.f, .int .u8 y.g, .int .u8 y.h, .int .u8 y.i]
def Hx (y : Hc) : Obj := .cells #[.int .u8 y.a, .int .u8 y.b, .int .u8 y.c, .int .u8 y.d, .int .u8 y.e, .int .u8 y.f, .int .u8 y.g, .int .u8 y.h, .int .u8 y.i] 25
theorem choice_any (y : Hc) (w : World) (h : y.Ok) : Calls Try.prog 10 #[hv y] w fun e w' => e = .returned (cv (ch y)) ∧ Below w.heap.size w w' := by
  have P0 := Lib.hid (cb_box (w.alloc (Hx y)) z9 23)
  have B0 := Lib.hid (((Below.refl w.heap.size w).alloc (Nat.le_refl _) (Hx y)).alloc (by simp) (Cx z9 23))
  rw [World.size_alloc] at P0
  obtain ⟨⟨a0, a1⟩, ⟨b0, b1⟩, ⟨c0, c1⟩, ⟨d0, d1⟩, ⟨e0, e1⟩, ⟨f0, f1⟩, ⟨g0, g1⟩, ⟨h0, h1⟩, ⟨i0, i1⟩⟩ := h
  unfold hv
  go_enter Try.func10, Try.ntmps10
  go_wp2_with (refine at_store23 _ _ _ z9 (ch y) P0.out rfl rfl rfl rfl ?_; intro w2 P2 B2)
  refine bodyPost_ret (results_cell rfl _ _ _ _ rfl (load23 P2.out.1)) rfl ?_
  exact ⟨rfl, B0.out.trans (B2.out _ (by omega))⟩
end Go.Proofs.Ytfleppahimlbgaa
