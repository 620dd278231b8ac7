/-
  OpsSame holds for every nine bytes, every row of events by numbers and every event. No condition.
-/
import Derived.Test.YtilneflfeegnfaaGreatPQe
import Derived.Test.YtilneflfeegnfaaGreatPQd
import Derived.Test.YtilneflfeegnfaaGreatPQf
set_option linter.unusedSimpArgs false
set_option linter.unusedVariables false
namespace Go.Proofs.YtilneflfeegnfaaGreat
open Go.RowKit
theorem quiet_oneH {ops : Array Oper} {rest : List Oper} {o : Oper} {a : Act} {C : World → Prop} {Q : Act → Prop} (x y : Operand) (p : Hl.Hr) (hw : Region.wanted o (yielded ops a.tmps) = true) (ho : o.op = .binOp .eql 44 x y 44) (hx : a.eval x = Hl.hv p) (hy : a.eval y = Hl.hv p) (h : wpQuiet Tryz.prog ops C Q rest (a.put o.dst (.bool true))) : wpQuiet Tryz.prog ops C Q (o :: rest) a :=
  BigFrame.wpQuiet_want hw fun K hK => ⟨.bool true, fun W hC => by
    unfold Oper.quietAt execOp
    simp only [ho, hx, hy, Sem.run_bind, Sem.run_pure, Result.andThen_ok, Hl.guard33, Hl.run_eql33, (Hl.eqh_iff p p).2 rfl]
    exact ⟨rfl, rfl⟩, hK _ h⟩
theorem quiet_oneW {ops : Array Oper} {rest : List Oper} {o : Oper} {a : Act} {C : World → Prop} {Q : Act → Prop} (x y : Operand) (p : Sw.Sw) (hw : Region.wanted o (yielded ops a.tmps) = true) (ho : o.op = .binOp .eql 101 x y 101) (hx : a.eval x = Sw.swv p) (hy : a.eval y = Sw.swv p) (h : wpQuiet Tryz.prog ops C Q rest (a.put o.dst (.bool true))) : wpQuiet Tryz.prog ops C Q (o :: rest) a :=
  BigFrame.wpQuiet_want hw fun K hK => ⟨.bool true, fun W hC => by
    unfold Oper.quietAt execOp
    simp only [ho, hx, hy, Sem.run_bind, Sem.run_pure, Result.andThen_ok, Sw.guard39, Sw.run_eql39, show Sw.eqw p p = true by unfold Sw.eqw; exact decide_eq_true rfl]
    exact ⟨rfl, rfl⟩, hK _ h⟩
theorem quiet_oneP {ops : Array Oper} {rest : List Oper} {o : Oper} {a : Act} {C : World → Prop} {Q : Act → Prop} (x y : Operand) (p : Pb.Pr) (hw : Region.wanted o (yielded ops a.tmps) = true) (ho : o.op = .binOp .eql 97 x y 97) (hx : a.eval x = Pb.prv p) (hy : a.eval y = Pb.prv p) (h : wpQuiet Tryz.prog ops C Q rest (a.put o.dst (.bool true))) : wpQuiet Tryz.prog ops C Q (o :: rest) a :=
  BigFrame.wpQuiet_want hw fun K hK => ⟨.bool true, fun W hC => by
    unfold Oper.quietAt execOp
    simp only [ho, hx, hy, Sem.run_bind, Sem.run_pure, Result.andThen_ok, Pb.guard37, Pb.run_eql37, show Pb.eqr p p = true by unfold Pb.eqr; exact decide_eq_true rfl]
    exact ⟨rfl, rfl⟩, hK _ h⟩
theorem quiet_oneC {ops : Array Oper} {rest : List Oper} {o : Oper} {a : Act} {C : World → Prop} {Q : Act → Prop} (x y : Operand) (p : Cs.Ca) (hw : Region.wanted o (yielded ops a.tmps) = true) (ho : o.op = .binOp .eql 74 x y 74) (hx : a.eval x = Cs.cav p) (hy : a.eval y = Cs.cav p) (h : wpQuiet Tryz.prog ops C Q rest (a.put o.dst (.bool true))) : wpQuiet Tryz.prog ops C Q (o :: rest) a :=
  BigFrame.wpQuiet_want hw fun K hK => ⟨.bool true, fun W hC => by
    unfold Oper.quietAt execOp
    simp only [ho, hx, hy, Sem.run_bind, Sem.run_pure, Result.andThen_ok, Cs.guard37, Cs.run_eql37, show Cs.eqr p p = true by unfold Cs.eqr; exact decide_eq_true rfl]
    exact ⟨rfl, rfl⟩, hK _ h⟩
theorem quiet_oneS {ops : Array Oper} {rest : List Oper} {o : Oper} {a : Act} {C : World → Prop} {Q : Act → Prop} (x y : Operand) (p : Sn.Sg) (hw : Region.wanted o (yielded ops a.tmps) = true) (ho : o.op = .binOp .eql 49 x y 49) (hx : a.eval x = Sn.sv p) (hy : a.eval y = Sn.sv p) (h : wpQuiet Tryz.prog ops C Q rest (a.put o.dst (.bool true))) : wpQuiet Tryz.prog ops C Q (o :: rest) a :=
  BigFrame.wpQuiet_want hw fun K hK => ⟨.bool true, fun W hC => by
    unfold Oper.quietAt execOp
    simp only [ho, hx, hy, Sem.run_bind, Sem.run_pure, Result.andThen_ok, Sn.guard35, Sn.run_eql35, (Sn.eqs_iff p p).2 rfl]
    exact ⟨rfl, rfl⟩, hK _ h⟩
structure Tm (b c : Nat) (x : Stt) (r r' : Rws) (w W : World) : Prop where
  s : Cx W b (stl x r)
  t : Cx W c (stl x r')
  l : Lie W x r
  m : Lie W x r'
  b : Below w.heap.size w W
theorem Tm.below {b c : Nat} {x : Stt} {r r' : Rws} {w W W' : World} (h : Tm b c x r r' w W) (hb : Below W.heap.size W W') : Tm b c x r r' w W' :=
  ⟨Cx.below h.s hb, Cx.below h.t hb, h.l.below hb, h.m.below hb, bthen h.b hb h.b.size⟩
theorem Tm.drewN {b c : Nat} {x : Stt} {r r' : Rws} {w W : World} (h : Tm b c x r r' w W) (m : Nat) : Tm b c x r r' w (W.drewN m) := h.below (bdrewN (Below.refl _ W) m)
theorem ks_two {w : World} {A : Option Addr} {ps : List Sn.Kp} (h : Sn.Ks w A ps) {k : Nat} {x : Sn.Kp} (hx : ps[k]? = some x) :
    ∃ y u, A = some y ∧ u.a = x.a ∧ u.ss = x.ss ∧ w.cell? (y.add (k * 2)) = some (.int .u32 u.a) ∧ w.cell? ⟨(y.add (k * 2)).block, (y.add (k * 2)).off + 1, none⟩ = some (.slice u.P u.ss.length u.c) ∧ Sn.Kn.In w u := by
  obtain ⟨kx, rfl, hK, hI⟩ := h
  rw [List.getElem?_map] at hx
  cases hu : kx[k]? with
  | none => rw [hu] at hx; cases hx
  | some u =>
    rw [hu] at hx
    have hx := Option.some.inj hx
    subst hx
    obtain ⟨y, rfl⟩ := rw_some hK (Nat.lt_of_le_of_lt (Nat.zero_le k) (List.getElem?_eq_some_iff.1 hu).1)
    have hat := hK.at hu
    have h0 := hat 0 _ rfl
    have h1 := hat 1 _ rfl
    have e : (⟨(y.add (k * 2)).block, (y.add (k * 2)).off + 1, none⟩ : Addr) = (y.add (k * 2)).add 1 := by
      generalize y.add (k * 2) = z
      unfold Addr.add
      rw [if_neg (by omega)]
    exact ⟨y, u, rfl, rfl, rfl, h0, by rw [e]; exact h1, hI u (List.mem_of_getElem? hu)⟩
set_option maxRecDepth 100000 in
set_option maxHeartbeats 8000000 in
theorem same_any (x : Stt) (r r' : Rws) (w : World) (h : Lie w x r) (h' : Lie w x r') (h8 : ∀ y ∈ x.kn, y.ss.length ≤ 1000) :
    Calls Tryz.prog 16 #[stv x r, stv x r'] w fun e w' => e = .returned (.bool true) ∧ Below w.heap.size w w' := by
  have R0 := Lib.hid h
  have R1 := Lib.hid h'
  have H8 := Lib.hid h8
  clear h h' h8
  obtain ⟨n, q, hs, sw, kn, pb, cs⟩ := x
  obtain ⟨A1, c1, A2, c2, A3, c3, A4, c4, A5, c5⟩ := r
  obtain ⟨D1, d1, D2, d2, D3, d3, D4, d4, D5, d5⟩ := r'
  simp only [stv]
  dsimp only at H8
  have l1 := R0.out.hc
  have l2 := R0.out.sc
  have l3 := R0.out.kc
  have l4 := R0.out.pc
  have l5 := R0.out.cc
  have m1 := R1.out.hc
  have m2 := R1.out.sc
  have m3 := R1.out.kc
  have m4 := R1.out.pc
  have m5 := R1.out.cc
  dsimp only at l1 l2 l3 l4 l5 m1 m2 m3 m4 m5
  have g1 := R0.out.h.1
  have g2 := R0.out.s.1
  have g3 := R0.out.k.len
  have g4 := R0.out.p.1
  have g5 := R0.out.c.1
  dsimp only at g1 g2 g3 g4 g5
  have B0 := (show Below w.heap.size w ((w.alloc (.cells #[.int .i64 n, .int .i64 q, .slice A1 hs.length c1, .slice A2 sw.length c2, .slice A3 kn.length c3, .slice A4 pb.length c4, .slice A5 cs.length c5] 35)).alloc (.cells #[.int .i64 n, .int .i64 q, .slice D1 hs.length d1, .slice D2 sw.length d2, .slice D3 kn.length d3, .slice D4 pb.length d4, .slice D5 cs.length d5] 35)) from ((Below.refl _ w).alloc (Nat.le_refl _) _).alloc (by simp) _)
  have S0 := Cx.below (cx_box w (stl ⟨n, q, hs, sw, kn, pb, cs⟩ ⟨A1, c1, A2, c2, A3, c3, A4, c4, A5, c5⟩) _ 35 rfl) ((Below.refl _ _).alloc (Nat.le_refl _) (.cells #[.int .i64 n, .int .i64 q, .slice D1 hs.length d1, .slice D2 sw.length d2, .slice D3 kn.length d3, .slice D4 pb.length d4, .slice D5 cs.length d5] 35))
  have T0 := cx_box (w.alloc (.cells #[.int .i64 n, .int .i64 q, .slice A1 hs.length c1, .slice A2 sw.length c2, .slice A3 kn.length c3, .slice A4 pb.length c4, .slice A5 cs.length c5] 35)) (stl ⟨n, q, hs, sw, kn, pb, cs⟩ ⟨D1, d1, D2, d2, D3, d3, D4, d4, D5, d5⟩) _ 35 rfl
  rw [World.size_alloc] at T0
  have H0 := Lib.hid (show Tm w.heap.size (w.heap.size + 1) ⟨n, q, hs, sw, kn, pb, cs⟩ ⟨A1, c1, A2, c2, A3, c3, A4, c4, A5, c5⟩ ⟨D1, d1, D2, d2, D3, d3, D4, d4, D5, d5⟩ w ((w.alloc (.cells #[.int .i64 n, .int .i64 q, .slice A1 hs.length c1, .slice A2 sw.length c2, .slice A3 kn.length c3, .slice A4 pb.length c4, .slice A5 cs.length c5] 35)).alloc (.cells #[.int .i64 n, .int .i64 q, .slice D1 hs.length d1, .slice D2 sw.length d2, .slice D3 kn.length d3, .slice D4 pb.length d4, .slice D5 cs.length d5] 35)) from ⟨S0, T0, R0.out.below B0, R1.out.below B0, B0⟩)
  clear R0 R1 B0 S0 T0
  go_enter Tryz.func16, Tryz.ntmps16
  go_upto_region 1 with fail
  generalize (w.alloc (.cells #[.int .i64 n, .int .i64 q, .slice A1 hs.length c1, .slice A2 sw.length c2, .slice A3 kn.length c3, .slice A4 pb.length c4, .slice A5 cs.length c5] 35)).alloc (.cells #[.int .i64 n, .int .i64 q, .slice D1 hs.length d1, .slice D2 sw.length d2, .slice D3 kn.length d3, .slice D4 pb.length d4, .slice D5 cs.length d5] 35) = W at *
  obtain ⟨N1, hN1⟩ : ∃ n, hs.length = n := ⟨_, rfl⟩
  have HN1 := Lib.hid hN1
  obtain ⟨N2, hN2⟩ : ∃ n, sw.length = n := ⟨_, rfl⟩
  have HN2 := Lib.hid hN2
  obtain ⟨N3, hN3⟩ : ∃ n, kn.length = n := ⟨_, rfl⟩
  have HN3 := Lib.hid hN3
  obtain ⟨N4, hN4⟩ : ∃ n, pb.length = n := ⟨_, rfl⟩
  have HN4 := Lib.hid hN4
  obtain ⟨N5, hN5⟩ : ∃ n, cs.length = n := ⟨_, rfl⟩
  have HN5 := Lib.hid hN5
  have a0 := H0.out.s.key 0 _ rfl
  have b0 := H0.out.t.key 0 _ rfl
  have a1 := H0.out.s.key 1 _ rfl
  have b1 := H0.out.t.key 1 _ rfl
  have a2 := H0.out.s.key 2 _ rfl
  have b2 := H0.out.t.key 2 _ rfl
  have a3 := H0.out.s.key 3 _ rfl
  have b3 := H0.out.t.key 3 _ rfl
  have a4 := H0.out.s.key 4 _ rfl
  have b4 := H0.out.t.key 4 _ rfl
  have a5 := H0.out.s.key 5 _ rfl
  have b5 := H0.out.t.key 5 _ rfl
  have a6 := H0.out.s.key 6 _ rfl
  have b6 := H0.out.t.key 6 _ rfl
  (try dsimp only at a0 b0 a1 b1 a2 b2 a3 b3 a4 b4 a5 b5 a6 b6)
  rw [hN1] at a2 b2
  rw [hN2] at a3 b3
  rw [hN3] at a4 b4
  rw [hN4] at a5 b5
  rw [hN5] at a6 b6
  rw [hN1] at l1 m1 g1
  rw [hN2] at l2 m2 g2
  rw [hN3] at l3 m3 g3
  rw [hN4] at l4 m4 g4
  rw [hN5] at l5 m5 g5
  have hq : Hid True := Lib.hid trivial
  go_upto_region 4 with fail
  clear a0 a1 a3 a4 a5 a6 b0 b1 b3 b4 b5 b6
  go_wp2_with fail
  clear a2 b2
  go_loopw [5, 72] (fun o i wr => ∃ k : Nat, o = .bool true ∧ i = .int .i64 k ∧ k ≤ N1 ∧ Hid (Tm w.heap.size (w.heap.size + 1) ⟨n, q, hs, sw, kn, pb, cs⟩ ⟨A1, c1, A2, c2, A3, c3, A4, c4, A5, c5⟩ ⟨D1, d1, D2, d2, D3, d3, D4, d4, D5, d5⟩ w wr)) (fun _ i _ => N1 - (intOf i).toNat)
  case atStart => exact ⟨0, rfl, rfl, by omega, H0⟩
  case round =>
    obtain ⟨k, rfl, rfl, hk, HT⟩ := hrel
    clear H0
    by_cases hkL : k < N1
    · obtain ⟨x, hx⟩ : ∃ x, hs[k]? = some x := ⟨_, List.getElem?_eq_getElem (by rw [HN1.out]; exact hkL)⟩
      obtain ⟨y, hy⟩ := Hl.hs_some HT.out.l.h (by show 0 < hs.length; rw [HN1.out]; omega)
      obtain ⟨z, hz⟩ := Hl.hs_some HT.out.m.h (by show 0 < hs.length; rw [HN1.out]; omega)
      have ya := Lib.hid (show ∀ W', (∃ m, W' = wr.drewN m) → ∀ j v, (Hl.hl x)[j]? = some v → W'.cell? ((y.add (k * 8)).add j) = some v from fun W' hW => by
        obtain ⟨m, rfl⟩ := hW
        have hh := (HT.out.drewN m).l.h
        dsimp only at hy hh
        rw [hy] at hh
        exact hh.at hx)
      have za := Lib.hid (show ∀ W', (∃ m, W' = wr.drewN m) → ∀ j v, (Hl.hl x)[j]? = some v → W'.cell? ((z.add (k * 8)).add j) = some v from fun W' hW => by
        obtain ⟨m, rfl⟩ := hW
        have hh := (HT.out.drewN m).m.h
        dsimp only at hz hh
        rw [hz] at hh
        exact hh.at hx)
      have a2 := HT.out.s.key 2 _ rfl
      have b2 := HT.out.t.key 2 _ rfl
      (try dsimp only at a2 b2)
      rw [hN1] at a2 b2
      dsimp only at hy hz
      rw [hy] at a2
      rw [hz] at b2
      clear hx hy hz
      go_upto_region 7 with fail
      refine wp_region_quiet_lit (by kernel_rfl) (by kernel_rfl) ?_
      (try simp only [Act.put])
      repeat (first
        | (refine Hl.quiet_load33 (.tmp 80) (y.add (k * 8)) x ya.out ?_ ?_ ?_ ?_; rotate_left; (with_reducible rfl); rfl; rotate_left; kernel_rfl; simp only [Act.put, List.setIfInBounds_toArray, List.set_cons_zero, List.set_cons_succ])
        | (refine Hl.quiet_load33 (.tmp 85) (z.add (k * 8)) x za.out ?_ ?_ ?_ ?_; rotate_left; (with_reducible rfl); rfl; rotate_left; kernel_rfl; simp only [Act.put, List.setIfInBounds_toArray, List.set_cons_zero, List.set_cons_succ])
        | (refine quiet_oneH (.tmp 81) (.tmp 86) x ?_ ?_ ?_ ?_ ?_; rotate_left; (with_reducible rfl); rfl; rfl; rotate_left; kernel_rfl; simp only [Act.put, List.setIfInBounds_toArray, List.set_cons_zero, List.set_cons_succ])
        | go_big_quiet_step (fail))
      refine wpQuiet_nil ?_
      rintro w8 ⟨m, rfl⟩
      have HT8 := Lib.hid (HT.out.drewN m)
      go_wp2_with fail
      go_roundw
      case rel => exact ⟨k + 1, rfl, by go_num, by omega, HT8⟩
      case measure => simp [intOf]; omega
    · obtain rfl : k = N1 := by omega
      have a3 := HT.out.s.key 3 _ rfl
      have b3 := HT.out.t.key 3 _ rfl
      (try dsimp only at a3 b3)
      rw [hN2] at a3 b3
      obtain ⟨wo0, rfl⟩ : ∃ wo, wo = wr := ⟨_, rfl⟩
      have HO0 := HT
      go_wp2_with fail
      clear a3 b3
      go_loopw [5, 93] (fun o i wr => ∃ k : Nat, o = .bool true ∧ i = .int .i64 k ∧ k ≤ N2 ∧ Hid (Tm w.heap.size (w.heap.size + 1) ⟨n, q, hs, sw, kn, pb, cs⟩ ⟨A1, c1, A2, c2, A3, c3, A4, c4, A5, c5⟩ ⟨D1, d1, D2, d2, D3, d3, D4, d4, D5, d5⟩ w wr)) (fun _ i _ => N2 - (intOf i).toNat)
      case atStart => exact ⟨0, rfl, rfl, by omega, HO0⟩
      case round =>
        obtain ⟨k, rfl, rfl, hk, HT⟩ := hrel
        clear HO0
        by_cases hkL : k < N2
        · obtain ⟨x, hx⟩ : ∃ x, sw[k]? = some x := ⟨_, List.getElem?_eq_getElem (by rw [HN2.out]; exact hkL)⟩
          obtain ⟨y, hy⟩ := rw_some HT.out.l.s (by show 0 < sw.length; rw [HN2.out]; omega)
          obtain ⟨z, hz⟩ := rw_some HT.out.m.s (by show 0 < sw.length; rw [HN2.out]; omega)
          have ya := Lib.hid (show ∀ W', (∃ m, W' = wr.drewN m) → ∀ j v, (Sw.swl x)[j]? = some v → W'.cell? ((y.add (k * 4)).add j) = some v from fun W' hW => by
            obtain ⟨m, rfl⟩ := hW
            have hh := (HT.out.drewN m).l.s
            dsimp only at hy hh
            rw [hy] at hh
            exact hh.at hx)
          have za := Lib.hid (show ∀ W', (∃ m, W' = wr.drewN m) → ∀ j v, (Sw.swl x)[j]? = some v → W'.cell? ((z.add (k * 4)).add j) = some v from fun W' hW => by
            obtain ⟨m, rfl⟩ := hW
            have hh := (HT.out.drewN m).m.s
            dsimp only at hz hh
            rw [hz] at hh
            exact hh.at hx)
          have a3 := HT.out.s.key 3 _ rfl
          have b3 := HT.out.t.key 3 _ rfl
          (try dsimp only at a3 b3)
          rw [hN2] at a3 b3
          dsimp only at hy hz
          rw [hy] at a3
          rw [hz] at b3
          clear hx hy hz
          go_upto_region 12 with fail
          refine wp_region_quiet_lit (by kernel_rfl) (by kernel_rfl) ?_
          (try simp only [Act.put])
          repeat (first
            | (refine Sw.quiet_load39 (.tmp 101) (y.add (k * 4)) x ya.out ?_ ?_ ?_ ?_; rotate_left; (with_reducible rfl); rfl; rotate_left; kernel_rfl; simp only [Act.put, List.setIfInBounds_toArray, List.set_cons_zero, List.set_cons_succ])
            | (refine Sw.quiet_load39 (.tmp 106) (z.add (k * 4)) x za.out ?_ ?_ ?_ ?_; rotate_left; (with_reducible rfl); rfl; rotate_left; kernel_rfl; simp only [Act.put, List.setIfInBounds_toArray, List.set_cons_zero, List.set_cons_succ])
            | (refine quiet_oneW (.tmp 102) (.tmp 107) x ?_ ?_ ?_ ?_ ?_; rotate_left; (with_reducible rfl); rfl; rfl; rotate_left; kernel_rfl; simp only [Act.put, List.setIfInBounds_toArray, List.set_cons_zero, List.set_cons_succ])
            | go_big_quiet_step (fail))
          refine wpQuiet_nil ?_
          rintro w8 ⟨m, rfl⟩
          have HT8 := Lib.hid (HT.out.drewN m)
          go_wp2_with fail
          go_roundw
          case rel => exact ⟨k + 1, rfl, by go_num, by omega, HT8⟩
          case measure => simp [intOf]; omega
        · obtain rfl : k = N2 := by omega
          have a5 := HT.out.s.key 5 _ rfl
          have b5 := HT.out.t.key 5 _ rfl
          (try dsimp only at a5 b5)
          rw [hN4] at a5 b5
          obtain ⟨wo1, rfl⟩ : ∃ wo, wo = wr := ⟨_, rfl⟩
          have HO1 := HT
          go_wp2_with fail
          clear a5 b5
          go_loopw [5, 114] (fun o i wr => ∃ k : Nat, o = .bool true ∧ i = .int .i64 k ∧ k ≤ N4 ∧ Hid (Tm w.heap.size (w.heap.size + 1) ⟨n, q, hs, sw, kn, pb, cs⟩ ⟨A1, c1, A2, c2, A3, c3, A4, c4, A5, c5⟩ ⟨D1, d1, D2, d2, D3, d3, D4, d4, D5, d5⟩ w wr)) (fun _ i _ => N4 - (intOf i).toNat)
          case atStart => exact ⟨0, rfl, rfl, by omega, HO1⟩
          case round =>
            obtain ⟨k, rfl, rfl, hk, HT⟩ := hrel
            clear HO1
            by_cases hkL : k < N4
            · obtain ⟨x, hx⟩ : ∃ x, pb[k]? = some x := ⟨_, List.getElem?_eq_getElem (by rw [HN4.out]; exact hkL)⟩
              obtain ⟨y, hy⟩ := rw_some HT.out.l.p (by show 0 < pb.length; rw [HN4.out]; omega)
              obtain ⟨z, hz⟩ := rw_some HT.out.m.p (by show 0 < pb.length; rw [HN4.out]; omega)
              have ya := Lib.hid (show ∀ W', (∃ m, W' = wr.drewN m) → ∀ j v, (Pb.prl x)[j]? = some v → W'.cell? ((y.add (k * 5)).add j) = some v from fun W' hW => by
                obtain ⟨m, rfl⟩ := hW
                have hh := (HT.out.drewN m).l.p
                dsimp only at hy hh
                rw [hy] at hh
                exact hh.at hx)
              have za := Lib.hid (show ∀ W', (∃ m, W' = wr.drewN m) → ∀ j v, (Pb.prl x)[j]? = some v → W'.cell? ((z.add (k * 5)).add j) = some v from fun W' hW => by
                obtain ⟨m, rfl⟩ := hW
                have hh := (HT.out.drewN m).m.p
                dsimp only at hz hh
                rw [hz] at hh
                exact hh.at hx)
              have a5 := HT.out.s.key 5 _ rfl
              have b5 := HT.out.t.key 5 _ rfl
              (try dsimp only at a5 b5)
              rw [hN4] at a5 b5
              dsimp only at hy hz
              rw [hy] at a5
              rw [hz] at b5
              clear hx hy hz
              go_upto_region 17 with fail
              refine wp_region_quiet_lit (by kernel_rfl) (by kernel_rfl) ?_
              (try simp only [Act.put])
              repeat (first
                | (refine Pb.quiet_load37 (.tmp 122) (y.add (k * 5)) x ya.out ?_ ?_ ?_ ?_; rotate_left; (with_reducible rfl); rfl; rotate_left; kernel_rfl; simp only [Act.put, List.setIfInBounds_toArray, List.set_cons_zero, List.set_cons_succ])
                | (refine Pb.quiet_load37 (.tmp 127) (z.add (k * 5)) x za.out ?_ ?_ ?_ ?_; rotate_left; (with_reducible rfl); rfl; rotate_left; kernel_rfl; simp only [Act.put, List.setIfInBounds_toArray, List.set_cons_zero, List.set_cons_succ])
                | (refine quiet_oneP (.tmp 123) (.tmp 128) x ?_ ?_ ?_ ?_ ?_; rotate_left; (with_reducible rfl); rfl; rfl; rotate_left; kernel_rfl; simp only [Act.put, List.setIfInBounds_toArray, List.set_cons_zero, List.set_cons_succ])
                | go_big_quiet_step (fail))
              refine wpQuiet_nil ?_
              rintro w8 ⟨m, rfl⟩
              have HT8 := Lib.hid (HT.out.drewN m)
              go_wp2_with fail
              go_roundw
              case rel => exact ⟨k + 1, rfl, by go_num, by omega, HT8⟩
              case measure => simp [intOf]; omega
            · obtain rfl : k = N4 := by omega
              have a6 := HT.out.s.key 6 _ rfl
              have b6 := HT.out.t.key 6 _ rfl
              (try dsimp only at a6 b6)
              rw [hN5] at a6 b6
              obtain ⟨wo2, rfl⟩ : ∃ wo, wo = wr := ⟨_, rfl⟩
              have HO2 := HT
              go_wp2_with fail
              clear a6 b6
              go_loopw [5, 135] (fun o i wr => ∃ k : Nat, o = .bool true ∧ i = .int .i64 k ∧ k ≤ N5 ∧ Hid (Tm w.heap.size (w.heap.size + 1) ⟨n, q, hs, sw, kn, pb, cs⟩ ⟨A1, c1, A2, c2, A3, c3, A4, c4, A5, c5⟩ ⟨D1, d1, D2, d2, D3, d3, D4, d4, D5, d5⟩ w wr)) (fun _ i _ => N5 - (intOf i).toNat)
              case atStart => exact ⟨0, rfl, rfl, by omega, HO2⟩
              case round =>
                obtain ⟨k, rfl, rfl, hk, HT⟩ := hrel
                clear HO2
                by_cases hkL : k < N5
                · obtain ⟨x, hx⟩ : ∃ x, cs[k]? = some x := ⟨_, List.getElem?_eq_getElem (by rw [HN5.out]; exact hkL)⟩
                  obtain ⟨y, hy⟩ := rw_some HT.out.l.c (by show 0 < cs.length; rw [HN5.out]; omega)
                  obtain ⟨z, hz⟩ := rw_some HT.out.m.c (by show 0 < cs.length; rw [HN5.out]; omega)
                  have ya := Lib.hid (show ∀ W', (∃ m, W' = wr.drewN m) → ∀ j v, (Cs.cal x)[j]? = some v → W'.cell? ((y.add (k * 4)).add j) = some v from fun W' hW => by
                    obtain ⟨m, rfl⟩ := hW
                    have hh := (HT.out.drewN m).l.c
                    dsimp only at hy hh
                    rw [hy] at hh
                    exact hh.at hx)
                  have za := Lib.hid (show ∀ W', (∃ m, W' = wr.drewN m) → ∀ j v, (Cs.cal x)[j]? = some v → W'.cell? ((z.add (k * 4)).add j) = some v from fun W' hW => by
                    obtain ⟨m, rfl⟩ := hW
                    have hh := (HT.out.drewN m).m.c
                    dsimp only at hz hh
                    rw [hz] at hh
                    exact hh.at hx)
                  have a6 := HT.out.s.key 6 _ rfl
                  have b6 := HT.out.t.key 6 _ rfl
                  (try dsimp only at a6 b6)
                  rw [hN5] at a6 b6
                  dsimp only at hy hz
                  rw [hy] at a6
                  rw [hz] at b6
                  clear hx hy hz
                  go_upto_region 22 with fail
                  refine wp_region_quiet_lit (by kernel_rfl) (by kernel_rfl) ?_
                  (try simp only [Act.put])
                  repeat (first
                    | (refine Cs.quiet_load37 (.tmp 143) (y.add (k * 4)) x ya.out ?_ ?_ ?_ ?_; rotate_left; (with_reducible rfl); rfl; rotate_left; kernel_rfl; simp only [Act.put, List.setIfInBounds_toArray, List.set_cons_zero, List.set_cons_succ])
                    | (refine Cs.quiet_load37 (.tmp 148) (z.add (k * 4)) x za.out ?_ ?_ ?_ ?_; rotate_left; (with_reducible rfl); rfl; rotate_left; kernel_rfl; simp only [Act.put, List.setIfInBounds_toArray, List.set_cons_zero, List.set_cons_succ])
                    | (refine quiet_oneC (.tmp 144) (.tmp 149) x ?_ ?_ ?_ ?_ ?_; rotate_left; (with_reducible rfl); rfl; rfl; rotate_left; kernel_rfl; simp only [Act.put, List.setIfInBounds_toArray, List.set_cons_zero, List.set_cons_succ])
                    | go_big_quiet_step (fail))
                  refine wpQuiet_nil ?_
                  rintro w8 ⟨m, rfl⟩
                  have HT8 := Lib.hid (HT.out.drewN m)
                  go_wp2_with fail
                  go_roundw
                  case rel => exact ⟨k + 1, rfl, by go_num, by omega, HT8⟩
                  case measure => simp [intOf]; omega
                · obtain rfl : k = N5 := by omega
                  have a4 := HT.out.s.key 4 _ rfl
                  have b4 := HT.out.t.key 4 _ rfl
                  (try dsimp only at a4 b4)
                  rw [hN3] at a4 b4
                  obtain ⟨wo3, rfl⟩ : ∃ wo, wo = wr := ⟨_, rfl⟩
                  have HO3 := HT
                  have H4 := HO3
                  go_wp2_with fail
                  clear a4 b4
                  go_loopw [5, 156] (fun o i wr => ∃ k : Nat, o = .bool true ∧ i = .int .i64 k ∧ k ≤ N3 ∧ Hid (Tm w.heap.size (w.heap.size + 1) ⟨n, q, hs, sw, kn, pb, cs⟩ ⟨A1, c1, A2, c2, A3, c3, A4, c4, A5, c5⟩ ⟨D1, d1, D2, d2, D3, d3, D4, d4, D5, d5⟩ w wr)) (fun _ i _ => N3 - (intOf i).toNat)
                  case atStart => exact ⟨0, rfl, rfl, by omega, H4⟩
                  case round =>
                    obtain ⟨k, rfl, rfl, hk, HT⟩ := hrel
                    clear H4 HO3
                    by_cases hkL : k < N3
                    · obtain ⟨x, hx⟩ : ∃ x, kn[k]? = some x := ⟨_, List.getElem?_eq_getElem (by rw [HN3.out]; exact hkL)⟩
                      have hx8 := H8.out x (List.mem_of_getElem? hx)
                      obtain ⟨y, u, hy, hu1, hu2, ua, ub, uI⟩ := ks_two HT.out.l.k hx
                      obtain ⟨z, v, hz, hv1, hv2, va, vb, vI⟩ := ks_two HT.out.m.k hx
                      dsimp only at hy hz
                      have a4 := HT.out.s.key 4 _ rfl
                      have b4 := HT.out.t.key 4 _ rfl
                      (try dsimp only at a4 b4)
                      rw [hN3] at a4 b4
                      rw [hy] at a4
                      rw [hz] at b4
                      obtain ⟨xa, hxa⟩ : ∃ a, x.a = a := ⟨_, rfl⟩
                      obtain ⟨ss, hss⟩ : ∃ a, x.ss = a := ⟨_, rfl⟩
                      rw [hxa] at hu1 hv1
                      rw [hss] at hu2 hv2 hx8
                      rw [hu1] at ua
                      rw [hu2] at ub
                      rw [hv1] at va
                      rw [hv2] at vb
                      have UL := Lib.hid (hu2 ▸ uI.lies)
                      have VL := Lib.hid (hv2 ▸ vI.lies)
                      have ul := hu2 ▸ uI.le
                      have vl := hv2 ▸ vI.le
                      obtain ⟨M, hM⟩ : ∃ n, ss.length = n := ⟨_, rfl⟩
                      have HM := Lib.hid hM
                      rw [hM] at hx8 ub vb ul vl
                      clear hx hu1 hu2 hv1 hv2 uI vI hxa hss hM
                      obtain ⟨uP, huP⟩ : ∃ a, u.P = a := ⟨_, rfl⟩
                      obtain ⟨uc, huc⟩ : ∃ a, u.c = a := ⟨_, rfl⟩
                      obtain ⟨vP, hvP⟩ : ∃ a, v.P = a := ⟨_, rfl⟩
                      obtain ⟨vc, hvc⟩ : ∃ a, v.c = a := ⟨_, rfl⟩
                      rw [huP] at ub UL
                      rw [hvP] at vb VL
                      rw [huc] at ub ul
                      rw [hvc] at vb vl
                      clear huP huc hvP hvc
                      go_upto_region 27 with fail
                      refine wp_region_quiet_lit (by kernel_rfl) (by kernel_rfl) ?_
                      (try simp only [Act.put])
                      repeat (go_big_quiet_step (fail))
                      refine wpQuiet_nil ?_
                      rintro w8 ⟨m, rfl⟩
                      have HT8 := Lib.hid (HT.out.drewN m)
                      have UL8 := Lib.hid (UL.out.drewN m)
                      have VL8 := Lib.hid (VL.out.drewN m)
                      have ub8 : (wr.drewN m).cell? ⟨(y.add (k * 2)).block, (y.add (k * 2)).off + 1, none⟩ = some (.slice uP M uc) := by rw [World.cell?_drewN]; exact ub
                      have vb8 : (wr.drewN m).cell? ⟨(z.add (k * 2)).block, (z.add (k * 2)).off + 1, none⟩ = some (.slice vP M vc) := by rw [World.cell?_drewN]; exact vb
                      clear HT UL VL a4 b4 ua va ub vb
                      generalize wr.drewN m = w9 at *
                      have HH9 := Lib.hid (show (Tm w.heap.size (w.heap.size + 1) ⟨n, q, hs, sw, kn, pb, cs⟩ ⟨A1, c1, A2, c2, A3, c3, A4, c4, A5, c5⟩ ⟨D1, d1, D2, d2, D3, d3, D4, d4, D5, d5⟩ w w9) ∧ Rw Sn.eS w9 uP ss ∧ Rw Sn.eS w9 vP ss ∧ w9.cell? ⟨(y.add (k * 2)).block, (y.add (k * 2)).off + 1, none⟩ = some (.slice uP M uc) ∧ w9.cell? ⟨(z.add (k * 2)).block, (z.add (k * 2)).off + 1, none⟩ = some (.slice vP M vc) from ⟨HT8.out, UL8.out, VL8.out, ub8, vb8⟩)
                      clear UL8 VL8 ub8 vb8 HT8
                      have hgm : M ≤ 1000 := hx8
                      go_wp2_with fail
                      go_loopw [5, 11] (fun o i wr => ∃ j : Nat, o = .bool true ∧ i = .int .i64 j ∧ j ≤ M ∧ Hid ((Tm w.heap.size (w.heap.size + 1) ⟨n, q, hs, sw, kn, pb, cs⟩ ⟨A1, c1, A2, c2, A3, c3, A4, c4, A5, c5⟩ ⟨D1, d1, D2, d2, D3, d3, D4, d4, D5, d5⟩ w wr) ∧ Rw Sn.eS wr uP ss ∧ Rw Sn.eS wr vP ss ∧ wr.cell? ⟨(y.add (k * 2)).block, (y.add (k * 2)).off + 1, none⟩ = some (.slice uP M uc) ∧ wr.cell? ⟨(z.add (k * 2)).block, (z.add (k * 2)).off + 1, none⟩ = some (.slice vP M vc))) (fun _ i _ => M - (intOf i).toNat)
                      case atStart => exact ⟨0, rfl, rfl, by omega, HH9⟩
                      case round =>
                        obtain ⟨j, rfl, rfl, hj, HJ⟩ := hrel
                        clear HH9
                        obtain ⟨hT, hU, hV, hub, hvb⟩ := HJ.out
                        have HT7 := Lib.hid hT
                        have HU := Lib.hid hU
                        have HV := Lib.hid hV
                        clear hT hU hV HJ
                        have a4 := HT7.out.s.key 4 _ rfl
                        have b4 := HT7.out.t.key 4 _ rfl
                        (try dsimp only at a4 b4)
                        rw [hN3] at a4 b4
                        rw [hy] at a4
                        rw [hz] at b4
                        by_cases hjM : j < M
                        · obtain ⟨x, hx⟩ : ∃ x, ss[j]? = some x := ⟨_, List.getElem?_eq_getElem (by rw [HM.out]; exact hjM)⟩
                          obtain ⟨f, rfl⟩ := rw_some HU.out (by rw [HM.out]; omega)
                          obtain ⟨g, rfl⟩ := rw_some HV.out (by rw [HM.out]; omega)
                          have fa := Lib.hid (show ∀ W', (∃ m, W' = wr.drewN m) → ∀ j' v, (Sn.sl x)[j']? = some v → W'.cell? ((f.add (j * 8)).add j') = some v from fun W' hW => by
                            obtain ⟨m, rfl⟩ := hW
                            exact (HU.out.drewN m).at hx)
                          have ga := Lib.hid (show ∀ W', (∃ m, W' = wr.drewN m) → ∀ j' v, (Sn.sl x)[j']? = some v → W'.cell? ((g.add (j * 8)).add j') = some v from fun W' hW => by
                            obtain ⟨m, rfl⟩ := hW
                            exact (HV.out.drewN m).at hx)
                          clear hx
                          go_upto_region 31 with fail
                          refine wp_region_quiet_lit (by kernel_rfl) (by kernel_rfl) ?_
                          (try simp only [Act.put])
                          repeat (first
                            | (refine Sn.quiet_load35 (.tmp 213) (f.add (j * 8)) x fa.out ?_ ?_ ?_ ?_; rotate_left; (with_reducible rfl); rfl; rotate_left; kernel_rfl; simp only [Act.put, List.setIfInBounds_toArray, List.set_cons_zero, List.set_cons_succ])
                            | (refine Sn.quiet_load35 (.tmp 222) (g.add (j * 8)) x ga.out ?_ ?_ ?_ ?_; rotate_left; (with_reducible rfl); rfl; rotate_left; kernel_rfl; simp only [Act.put, List.setIfInBounds_toArray, List.set_cons_zero, List.set_cons_succ])
                            | (refine quiet_oneS (.tmp 214) (.tmp 223) x ?_ ?_ ?_ ?_ ?_; rotate_left; (with_reducible rfl); rfl; rfl; rotate_left; kernel_rfl; simp only [Act.put, List.setIfInBounds_toArray, List.set_cons_zero, List.set_cons_succ])
                            | go_big_quiet_step (fail))
                          refine wpQuiet_nil ?_
                          rintro w8 ⟨m, rfl⟩
                          have HN8 := Lib.hid (show (Tm w.heap.size (w.heap.size + 1) ⟨n, q, hs, sw, kn, pb, cs⟩ ⟨A1, c1, A2, c2, A3, c3, A4, c4, A5, c5⟩ ⟨D1, d1, D2, d2, D3, d3, D4, d4, D5, d5⟩ w (wr.drewN m)) ∧ Rw Sn.eS (wr.drewN m) (some f) ss ∧ Rw Sn.eS (wr.drewN m) (some g) ss ∧ (wr.drewN m).cell? ⟨(y.add (k * 2)).block, (y.add (k * 2)).off + 1, none⟩ = some (.slice (some f) M uc) ∧ (wr.drewN m).cell? ⟨(z.add (k * 2)).block, (z.add (k * 2)).off + 1, none⟩ = some (.slice (some g) M vc) from ⟨HT7.out.drewN m, HU.out.drewN m, HV.out.drewN m, by rw [World.cell?_drewN]; exact hub, by rw [World.cell?_drewN]; exact hvb⟩)
                          go_wp2_with fail
                          go_roundw
                          case rel => exact ⟨j + 1, rfl, by go_num, by omega, HN8⟩
                          case measure => simp [intOf]; omega
                        · obtain rfl : j = M := by omega
                          go_wp2_with fail
                          go_roundw
                          case rel => exact ⟨k + 1, rfl, by go_num, by omega, HT7⟩
                          case measure => simp [intOf]; omega
                    · obtain rfl : k = N3 := by omega
                      go_wp2_with fail
                      go_ret
                      exact ⟨rfl, HT.out.b⟩
end Go.Proofs.YtilneflfeegnfaaGreat
namespace Go.Proofs.YtilneflfeegnfaaGreat
open Go.RowKit
theorem do_err {c : Cf} {x : Stt} {e : Evt} (h : (doL c x e).2.2 ≠ 0) : (doL c x e).1 = x ∧ (doL c x e).2.1 = [] := by
  by_cases h0 : e.k = 0
  · unfold doL at h
    rw [if_pos h0] at h
    exact absurd rfl h
  · rw [doL_ch c x e h0] at h ⊢
    exact ⟨(chL_two x e).2 h, (chL_two x e).1⟩
theorem mk_Ak : Mk eAk := fun x => ⟨0, _, rfl, u8_no _⟩
theorem kn8 {x : Stt} (h : In x) : ∀ y ∈ x.kn, y.ss.length ≤ 1000 := fun y hy => by
  have := ((Sn.rsB_iff _).1 (h.kv.ok y hy)).1.2
  omega
set_option maxRecDepth 100000 in
set_option maxHeartbeats 8000000 in
theorem opsSame_walk (y : Hc) (A : Option Addr) (ys : List Ak) (cap : Nat) (ev : Evt) (w : World) (hy : y.Ok) (hR : Rw eAk w A ys) (hcap : ys.length ≤ cap) (hok : ∀ x ∈ ys, x.Ok) (hev : ev.Ok) : Calls Tryz.prog 4 #[hv y, .slice A ys.length cap, evv ev] w fun e w' => e = .returned (.bool true) ∧ Below w.heap.size w w' := by
  have RA := Lib.hid hR
  have HSM := fun W (h : Rw eAk W A ys) => some_any (ch y) A ys cap W (ck_ch y hy) h hcap hok
  have HI := smL_in (ck_ch y hy) (evsL (ys.take 60)) (evsL_ok _ fun y h => hok y (List.mem_of_mem_take h))
  obtain ⟨X, hX⟩ : ∃ X, smL (ch y) (evsL (ys.take 60)) = X := ⟨_, rfl⟩
  rw [hX] at HSM HI
  have HIH := Lib.hid HI
  clear hX hok hR
  have HA := Lib.hid awake_any
  have HC := fun W => choice_any y W hy
  have HK := ck_ch y hy
  have HO := cf_old y hy
  obtain ⟨cf, hcf⟩ : ∃ cf, ch y = cf := ⟨_, rfl⟩
  rw [hcf] at HC HK HO HSM
  obtain ⟨ya, yb, yc, yd, ye, yf, yg, yh, yi⟩ := y
  obtain ⟨xa, xb, xc, xd, xe, xf, xg, xh, xi⟩ := cf
  simp only [cfv, hv] at HC
  replace HC := Lib.hid HC
  replace HK := Lib.hid HK
  have hO1 := HO
  dsimp only at hO1
  simp only [hv]
  have VB := Lib.hid hev
  simp only [evv, evl]
  have B0 := Lib.hid (show Below w.heap.size w ((w.alloc (.cells #[.int .u8 ya, .int .u8 yb, .int .u8 yc, .int .u8 yd, .int .u8 ye, .int .u8 yf, .int .u8 yg, .int .u8 yh, .int .u8 yi] 23)).alloc (.cells #[.int .i64 ev.k, .int .u32 ev.h.a, .string ev.h.T, .int .u8 ev.h.m0, .int .u8 ev.h.m1, .int .u8 ev.h.m2, .int .u8 ev.h.m3, .int .u8 ev.h.m4, .int .u8 ev.h.m5, .int .u32 ev.b, .int .i64 ev.n, .int .i64 ev.s.f, .int .u8 ev.s.m0, .int .u8 ev.s.m1, .int .u8 ev.s.m2, .int .u8 ev.s.m3, .int .u8 ev.s.m4, .int .u8 ev.s.m5, .int .i64 ev.s.t] 51)) from ((Below.refl _ w).alloc (Nat.le_refl _) _).alloc (by simp) _)
  have X0 := Lib.hid (show Cx ((w.alloc (.cells #[.int .u8 ya, .int .u8 yb, .int .u8 yc, .int .u8 yd, .int .u8 ye, .int .u8 yf, .int .u8 yg, .int .u8 yh, .int .u8 yi] 23)).alloc (.cells #[.int .i64 ev.k, .int .u32 ev.h.a, .string ev.h.T, .int .u8 ev.h.m0, .int .u8 ev.h.m1, .int .u8 ev.h.m2, .int .u8 ev.h.m3, .int .u8 ev.h.m4, .int .u8 ev.h.m5, .int .u32 ev.b, .int .i64 ev.n, .int .i64 ev.s.f, .int .u8 ev.s.m0, .int .u8 ev.s.m1, .int .u8 ev.s.m2, .int .u8 ev.s.m3, .int .u8 ev.s.m4, .int .u8 ev.s.m5, .int .i64 ev.s.t] 51)) w.heap.size [.int .u8 ya, .int .u8 yb, .int .u8 yc, .int .u8 yd, .int .u8 ye, .int .u8 yf, .int .u8 yg, .int .u8 yh, .int .u8 yi] from Cx.below (cx_box w _ _ 23 rfl) ((Below.refl _ _).alloc (Nat.le_refl _) _))
  have V0 := Lib.hid (show Cx ((w.alloc (.cells #[.int .u8 ya, .int .u8 yb, .int .u8 yc, .int .u8 yd, .int .u8 ye, .int .u8 yf, .int .u8 yg, .int .u8 yh, .int .u8 yi] 23)).alloc (.cells #[.int .i64 ev.k, .int .u32 ev.h.a, .string ev.h.T, .int .u8 ev.h.m0, .int .u8 ev.h.m1, .int .u8 ev.h.m2, .int .u8 ev.h.m3, .int .u8 ev.h.m4, .int .u8 ev.h.m5, .int .u32 ev.b, .int .i64 ev.n, .int .i64 ev.s.f, .int .u8 ev.s.m0, .int .u8 ev.s.m1, .int .u8 ev.s.m2, .int .u8 ev.s.m3, .int .u8 ev.s.m4, .int .u8 ev.s.m5, .int .i64 ev.s.t] 51)) (w.alloc (.cells #[.int .u8 ya, .int .u8 yb, .int .u8 yc, .int .u8 yd, .int .u8 ye, .int .u8 yf, .int .u8 yg, .int .u8 yh, .int .u8 yi] 23)).heap.size (evl ev) from cx_box _ _ _ 51 rfl)
  rw [World.size_alloc] at V0
  clear hy hcf HO
  go_enter Tryz.func4, Tryz.ntmps4
  go_wp2_with fail
  change Calls _ _ _ ((w.alloc (.cells #[.int .u8 ya, .int .u8 yb, .int .u8 yc, .int .u8 yd, .int .u8 ye, .int .u8 yf, .int .u8 yg, .int .u8 yh, .int .u8 yi] 23)).alloc (.cells #[.int .i64 ev.k, .int .u32 ev.h.a, .string ev.h.T, .int .u8 ev.h.m0, .int .u8 ev.h.m1, .int .u8 ev.h.m2, .int .u8 ev.h.m3, .int .u8 ev.h.m4, .int .u8 ev.h.m5, .int .u32 ev.b, .int .i64 ev.n, .int .i64 ev.s.f, .int .u8 ev.s.m0, .int .u8 ev.s.m1, .int .u8 ev.s.m2, .int .u8 ev.s.m3, .int .u8 ev.s.m4, .int .u8 ev.s.m5, .int .i64 ev.s.t] 51)) _
  generalize (w.alloc (.cells #[.int .u8 ya, .int .u8 yb, .int .u8 yc, .int .u8 yd, .int .u8 ye, .int .u8 yf, .int .u8 yg, .int .u8 yh, .int .u8 yi] 23)).alloc (.cells #[.int .i64 ev.k, .int .u32 ev.h.a, .string ev.h.T, .int .u8 ev.h.m0, .int .u8 ev.h.m1, .int .u8 ev.h.m2, .int .u8 ev.h.m3, .int .u8 ev.h.m4, .int .u8 ev.h.m5, .int .u32 ev.b, .int .i64 ev.n, .int .i64 ev.s.f, .int .u8 ev.s.m0, .int .u8 ev.s.m1, .int .u8 ev.s.m2, .int .u8 ev.s.m3, .int .u8 ev.s.m4, .int .u8 ev.s.m5, .int .i64 ev.s.t] 51) = W0 at *
  refine (HA.out _).mono ?_
  rintro e w1 ⟨rfl, hb⟩
  have X1 := Cx.below X0.out hb
  have V1 := Lib.hid (Cx.below V0.out hb)
  have B1 := Lib.hid (bthen B0.out hb B0.out.size)
  have l0 := X1.key 0 _ rfl
  have l1 := X1.key 1 _ rfl
  have l2 := X1.key 2 _ rfl
  have l3 := X1.key 3 _ rfl
  have l4 := X1.key 4 _ rfl
  have l5 := X1.key 5 _ rfl
  have l6 := X1.key 6 _ rfl
  have l7 := X1.key 7 _ rfl
  have l8 := X1.key 8 _ rfl
  (try dsimp only at l0 l1 l2 l3 l4 l5 l6 l7 l8)
  clear hb X1 X0 B0 HA V0
  go_wp2_with fail
  refine (HC.out _).mono ?_
  rintro e w2 ⟨rfl, hb⟩
  clear l0 l1 l2 l3 l4 l5 l6 l7 l8 HC
  have C3 := Lib.hid (show Cm (w2.alloc (.cells #[.int .i64 xa, .int .i64 xb, .int .i64 xc, .int .i64 xd, .int .i64 xe, .int .i64 xf, .int .i64 xg, .int .i64 xh, .int .i64 xi] 27)) w2.heap.size ⟨xa, xb, xc, xd, xe, xf, xg, xh, xi⟩ from cm_box w2 ⟨xa, xb, xc, xd, xe, xf, xg, xh, xi⟩)
  have B3 := Lib.hid (show Below w.heap.size w (w2.alloc (.cells #[.int .i64 xa, .int .i64 xb, .int .i64 xc, .int .i64 xd, .int .i64 xe, .int .i64 xf, .int .i64 xg, .int .i64 xh, .int .i64 xi] 27)) from (bthen B1.out hb B1.out.size).alloc (Nat.le_trans B1.out.size hb.size) _)
  have hg : w.heap.size ≤ w2.heap.size := Nat.le_trans B1.out.size hb.size
  have V3 := Lib.hid (Cx.below V1.out (hb.trans (((Below.refl w2.heap.size w2).alloc (Nat.le_refl _) (.cells #[.int .i64 xa, .int .i64 xb, .int .i64 xc, .int .i64 xd, .int .i64 xe, .int .i64 xf, .int .i64 xg, .int .i64 xh, .int .i64 xi] 27)).mono hb.size)))
  clear hb B1 V1
  replace HSM := Lib.hid HSM
  have RA3 := Lib.hid (RA.out.below B3.out)
  go_wp2_with fail
  change Calls _ _ _ (w2.alloc (.cells #[.int .i64 xa, .int .i64 xb, .int .i64 xc, .int .i64 xd, .int .i64 xe, .int .i64 xf, .int .i64 xg, .int .i64 xh, .int .i64 xi] 27)) _
  generalize w2.alloc (.cells #[.int .i64 xa, .int .i64 xb, .int .i64 xc, .int .i64 xd, .int .i64 xe, .int .i64 xf, .int .i64 xg, .int .i64 xh, .int .i64 xi] 27) = W3 at *
  refine (HSM.out _ RA3.out).mono ?_
  rintro e w3 ⟨r1, rfl, hL, hb⟩
  have BX := Lib.hid (show Below w3.heap.size w3 (w3.alloc (.cells #[.int .i64 0, .int .i64 0, .slice none 0 0, .slice none 0 0, .slice none 0 0, .slice none 0 0, .slice none 0 0] 35)) from (Below.refl _ _).alloc (Nat.le_refl _) _)
  have Z1 := Lib.hid (show Sb (w3.alloc (.cells #[.int .i64 0, .int .i64 0, .slice none 0 0, .slice none 0 0, .slice none 0 0, .slice none 0 0, .slice none 0 0] 35)) w3.heap.size (stl zst zrw) from sb_box w3 zst zrw)
  have bb := hb.trans (BX.out.mono hb.size)
  have B4 := Lib.hid (bthen B3.out bb B3.out.size)
  have C4 := Lib.hid (C3.out.below bb)
  have R4 := Lib.hid (hL.below BX.out)
  have V4 := Lib.hid (Cx.below V3.out bb)
  have RA4 := Lib.hid (RA3.out.below bb)
  have hv1 : w.heap.size + 1 < w3.heap.size := Nat.lt_of_lt_of_le V3.out.lt hb.size
  have hlt1 : w2.heap.size < w3.heap.size := Nat.lt_of_lt_of_le C3.out.lt hb.size
  clear bb hb hL BX B3 C3 RA RA3 V3
  go_upto_region 5 with (refine at_wholeSt _ _ w3.heap.size _ (stl X r1) Z1.out rfl (stl_ns _ _) (stl_one _ _) rfl rfl rfl rfl ?_; intro w4 S5 hb5 hk5)
  have B5 := Lib.hid (B4.out.trans (hb5.out _ (by omega)))
  have C5 := Lib.hid (cm_ob C4.out (Ob.put hb5.out hk5.out) (by omega))
  have R5 := Lib.hid (R4.out.apart Z1.out.bs hk5.out)
  have V5 := Lib.hid (cx_other V4.out hk5.out (by omega))
  have RA5 := Lib.hid (rw_apart mk_Ak RA4.out Z1.out.bs hk5.out)
  clear hb5 hk5 B4 C4 R4 Z1 HI V4 RA4
  have k0 := C5.out.c0
  have k1 := C5.out.c1
  have k2 := C5.out.c2
  have k3 := C5.out.c3
  have k4 := C5.out.c4
  have k5 := C5.out.c5
  have k6 := C5.out.c6
  have k7 := C5.out.c7
  have k8 := C5.out.c8
  (try dsimp only at k0 k1 k2 k3 k4 k5 k6 k7 k8)
  go_wp2_with fail
  refine (HSM.out _ RA5.out).mono ?_
  rintro e w6 ⟨r2, rfl, hL, hb⟩
  clear k0 k1 k2 k3 k4 k5 k6 k7 k8
  have BX := Lib.hid (show Below w6.heap.size w6 (w6.alloc (.cells #[.int .i64 0, .int .i64 0, .slice none 0 0, .slice none 0 0, .slice none 0 0, .slice none 0 0, .slice none 0 0] 35)) from (Below.refl _ _).alloc (Nat.le_refl _) _)
  have Z6 := Lib.hid (show Sb (w6.alloc (.cells #[.int .i64 0, .int .i64 0, .slice none 0 0, .slice none 0 0, .slice none 0 0, .slice none 0 0, .slice none 0 0] 35)) w6.heap.size (stl zst zrw) from sb_box w6 zst zrw)
  have bb := hb.trans (BX.out.mono hb.size)
  have B6 := Lib.hid (bthen B5.out bb B5.out.size)
  have C6 := Lib.hid (C5.out.below bb)
  have S6 := Lib.hid (S5.out.below bb)
  have R6 := Lib.hid (R5.out.below bb)
  have V6 := Lib.hid (Cx.below V5.out bb)
  have U6 := Lib.hid (hL.below BX.out)
  have hlt6 : w3.heap.size < w6.heap.size := Nat.lt_of_lt_of_le S5.out.lt hb.size
  clear bb hb hL BX B5 C5 S5 R5 V5 RA5 HSM
  go_upto_region 6 with (refine at_wholeSt _ _ w6.heap.size _ (stl X r2) Z6.out rfl (stl_ns _ _) (stl_one _ _) rfl rfl rfl rfl ?_; intro w7 T7 hb7 hk7)
  have B7 := Lib.hid (B6.out.trans (hb7.out _ (by omega)))
  have C7 := Lib.hid (cm_ob C6.out (Ob.put hb7.out hk7.out) (by omega))
  have S7 := Lib.hid (S6.out.other hk7.out (by omega))
  have R7 := Lib.hid (R6.out.apart Z6.out.bs hk7.out)
  have U7 := Lib.hid (U6.out.apart Z6.out.bs hk7.out)
  have V7 := Lib.hid (cx_other V6.out hk7.out (by omega))
  clear hb7 hk7 B6 C6 S6 R6 U6 V6 Z6
  have DO := Lib.hid (do_any ⟨xa, xb, xc, xd, xe, xf, xg, xh, xi⟩ X r1 ev w7 R7.out HIH.out HK.out VB.out)
  have hER := fun h => do_err (c := ⟨xa, xb, xc, xd, xe, xf, xg, xh, xi⟩) (x := X) (e := ev) h
  have hID := in_do HIH.out HK.out VB.out
  obtain ⟨D, hD⟩ : ∃ D, doL ⟨xa, xb, xc, xd, xe, xf, xg, xh, xi⟩ X ev = D := ⟨_, rfl⟩
  rw [hD] at DO hER hID
  obtain ⟨Y, ps, q⟩ := D
  dsimp only at hER hID
  have HER := Lib.hid hER
  have HIY := Lib.hid hID
  clear hD hER hID
  have k0 := C7.out.c0
  have k1 := C7.out.c1
  have k2 := C7.out.c2
  have k3 := C7.out.c3
  have k4 := C7.out.c4
  have k5 := C7.out.c5
  have k6 := C7.out.c6
  have k7 := C7.out.c7
  have k8 := C7.out.c8
  (try dsimp only at k0 k1 k2 k3 k4 k5 k6 k7 k8)
  go_wp2_with (first | (refine at_loadSt _ w3.heap.size _ S7.out.cx rfl rfl rfl rfl ?_) | (refine at_loadEv _ (w.heap.size + 1) ev V7.out rfl rfl rfl ?_))
  refine DO.out.mono ?_
  rintro e w8 ⟨r3, A8, c8, rfl, hL, hr8, hc8, hb⟩
  dsimp only at hL hr8 hc8 ⊢
  clear k0 k1 k2 k3 k4 k5 k6 k7 k8 hr8
  have BX := Lib.hid (show Below w8.heap.size w8 (w8.alloc (.cells #[.int .i64 0, .int .i64 0, .slice none 0 0, .slice none 0 0, .slice none 0 0, .slice none 0 0, .slice none 0 0] 35)) from (Below.refl _ _).alloc (Nat.le_refl _) _)
  have Z8 := Lib.hid (show Sb (w8.alloc (.cells #[.int .i64 0, .int .i64 0, .slice none 0 0, .slice none 0 0, .slice none 0 0, .slice none 0 0, .slice none 0 0] 35)) w8.heap.size (stl zst zrw) from sb_box w8 zst zrw)
  have bb := hb.trans (BX.out.mono hb.size)
  have B8 := Lib.hid (bthen B7.out bb B7.out.size)
  have S8 := Lib.hid (S7.out.below bb)
  have T8 := Lib.hid (T7.out.below bb)
  have R8 := Lib.hid (R7.out.below bb)
  have U8 := Lib.hid (U7.out.below bb)
  have Y8 := Lib.hid (hL.below BX.out)
  have hlt8 : w6.heap.size < w8.heap.size := Nat.lt_of_lt_of_le T7.out.lt hb.size
  have hg8 : w.heap.size ≤ w8.heap.size := Nat.le_trans B7.out.size hb.size
  clear bb hb hL BX B7 C7 S7 T7 R7 U7 V7 DO
  go_upto_region 7 with (refine at_wholeSt _ _ w8.heap.size _ (stl Y r3) Z8.out rfl (stl_ns _ _) (stl_one _ _) rfl rfl rfl rfl ?_; intro w9 Y9 hb9 hk9)
  have B9 := Lib.hid (B8.out.trans (hb9.out _ hg8))
  have S9 := Lib.hid (S8.out.other hk9.out (by omega))
  have T9 := Lib.hid (T8.out.other hk9.out (by omega))
  have R9 := Lib.hid (R8.out.apart Z8.out.bs hk9.out)
  have U9 := Lib.hid (U8.out.apart Z8.out.bs hk9.out)
  have L9 := Lib.hid (Y8.out.apart Z8.out.bs hk9.out)
  clear hb9 hk9 B8 S8 T8 R8 U8 Y8 Z8
  have HSA := Lib.hid (same_any X r1 r2 w9 R9.out U9.out (kn8 HIH.out))
  go_wp2_with (first | (refine at_loadSt _ w3.heap.size _ S9.out.cx rfl rfl rfl rfl ?_) | (refine at_loadSt _ w6.heap.size _ T9.out.cx rfl rfl rfl rfl ?_))
  refine HSA.out.mono ?_
  rintro e w10 ⟨rfl, hb⟩
  have B10 := Lib.hid (bthen B9.out hb B9.out.size)
  have S10 := Lib.hid (S9.out.below hb)
  have Y10 := Lib.hid (Y9.out.below hb)
  have R10 := Lib.hid (R9.out.below hb)
  have L10 := Lib.hid (L9.out.below hb)
  clear hb B9 S9 T9 Y9 R9 U9 L9 HSA
  have s0 := S10.out.cx.key 0 _ rfl
  have s1 := S10.out.cx.key 1 _ rfl
  have s2 := S10.out.cx.key 2 _ rfl
  have s3 := S10.out.cx.key 3 _ rfl
  have s4 := S10.out.cx.key 4 _ rfl
  have s5 := S10.out.cx.key 5 _ rfl
  have s6 := S10.out.cx.key 6 _ rfl
  have y0 := Y10.out.cx.key 0 _ rfl
  have y1 := Y10.out.cx.key 1 _ rfl
  have y2 := Y10.out.cx.key 2 _ rfl
  have y3 := Y10.out.cx.key 3 _ rfl
  have y4 := Y10.out.cx.key 4 _ rfl
  have y5 := Y10.out.cx.key 5 _ rfl
  have y6 := Y10.out.cx.key 6 _ rfl
  (try dsimp only at s0 s1 s2 s3 s4 s5 s6 y0 y1 y2 y3 y4 y5 y6)
  by_cases hq : q = 0
  · have HRT := Lib.hid (show Calls Tryz.prog 18 #[.agg #[.int .i64 Y.now, .int .i64 Y.seq, .slice r3.h Y.hs.length r3.hc, .slice r3.s Y.sw.length r3.sc, .slice r3.k Y.kn.length r3.kc, .slice r3.p Y.pb.length r3.pc, .slice r3.c Y.cs.length r3.cc]] w10 fun e w' => e = .returned (.bool true) ∧ Below w10.heap.size w10 w' from by
      have := rightS_any Y r3 w10 L10.out HIY.out.sv.u
      rw [HIY.out.right] at this
      exact this)
    subst hq
    clear s0 s1 s2 s3 s4 s5 s6
    go_wp2_with fail
    refine HRT.out.mono ?_
    rintro e w11 ⟨rfl, hb⟩
    have B11 := Lib.hid (bthen B10.out hb B10.out.size)
    go_wp2_with fail
    go_ret
    exact ⟨rfl, B11.out⟩
  · obtain ⟨rfl, rfl⟩ := HER.out hq
    have hqb : (q == 0) = false := by simpa using hq
    have hqn : (q != 0) = true := by simpa using hq
    have HRT := Lib.hid (show Calls Tryz.prog 16 #[.agg #[.int .i64 Y.now, .int .i64 Y.seq, .slice r1.h Y.hs.length r1.hc, .slice r1.s Y.sw.length r1.sc, .slice r1.k Y.kn.length r1.kc, .slice r1.p Y.pb.length r1.pc, .slice r1.c Y.cs.length r1.cc], .agg #[.int .i64 Y.now, .int .i64 Y.seq, .slice r3.h Y.hs.length r3.hc, .slice r3.s Y.sw.length r3.sc, .slice r3.k Y.kn.length r3.kc, .slice r3.p Y.pb.length r3.pc, .slice r3.c Y.cs.length r3.cc]] w10 fun e w' => e = .returned (.bool true) ∧ Below w10.heap.size w10 w' from same_any Y r1 r3 w10 R10.out L10.out (kn8 HIY.out))
    go_wp2_with fail
    refine HRT.out.mono ?_
    rintro e w11 ⟨rfl, hb⟩
    have B11 := Lib.hid (bthen B10.out hb B10.out.size)
    go_wp2_with fail
    go_ret
    exact ⟨rfl, B11.out⟩
end Go.Proofs.YtilneflfeegnfaaGreat
namespace Go.Proofs.YtilneflfeegnfaaGreat
open Go.ChangeShapes Go.WideShapes Go.ChangeAt Go.RowKit
theorem cells40 : Tryz.prog.cellsOf 40 = 1 := by kernel_rfl
theorem cells9 : Tryz.prog.cellsOf 9 = 1 := by kernel_rfl
theorem cells42 : Tryz.prog.cellsOf 42 = 6 := by kernel_rfl
theorem cells44 : Tryz.prog.cellsOf 44 = 8 := by kernel_rfl
theorem cells46 : Tryz.prog.cellsOf 46 = 2 := by kernel_rfl
theorem cells47 : Tryz.prog.cellsOf 47 = 1 := by kernel_rfl
theorem cells49 : Tryz.prog.cellsOf 49 = 8 := by kernel_rfl
theorem cells38 : Tryz.prog.cellsOf 38 = 1 := by kernel_rfl
theorem cells51 : Tryz.prog.cellsOf 51 = 19 := by kernel_rfl
def blkl (a : Int × Int) : List Value := [.int .u32 a.1, .int .i64 a.2]
set_option maxRecDepth 100000 in
theorem one_holder {H : Type} {enc : TypeId × Value → H} {W : World} {fuel : Nat} {cs : List Value} {d : DataW H × List MemPlace} (h : DataW.trod enc Tryz.prog W 0 (fun _ => true) true fuel 44 cs = some d) : ∃ a : Hl.Hr, a.ok ∧ cs = Hl.hl a := by
  obtain ⟨ys, n, _, _, hl', hy, hf⟩ := DataW.trod_struct Tryz.underlying44 h
  rw [cells44] at hl'
  match cs, hl' with
  | [v0, v1, v2, v3, v4, v5, v6, v7], _ =>
    have hy : ys.length = 3 := hy
    match ys, hy with
    | [y0, y1, y2], _ =>
      have f0 := hf 0 _ rfl
      have f1 := hf 1 _ rfl
      have f2 := hf 2 _ rfl
      simp only [cells40, cells9, cells42, List.drop_zero, List.drop_succ_cons, List.take_succ_cons, List.take_zero, List.getElem?_cons_zero, List.getElem?_cons_succ] at f0 f1 f2
      obtain ⟨n0, e0, _, w0⟩ := DataW.trod_int Tryz.underlying40 f0
      obtain ⟨n1, e1, _, w1⟩ := DataW.trod_string Tryz.underlying9 f1
      obtain ⟨xs2, m2, _, _, _, hxl2, hxe2⟩ := DataW.trod_array Tryz.underlying42 f2
      obtain ⟨z20, z21, z22, z23, z24, z25, rfl⟩ : ∃ a b c d e f, xs2 = [a, b, c, d, e, f] := by
        match xs2, hxl2 with
        | [a, b, c, d, e, f], _ => exact ⟨a, b, c, d, e, f, rfl⟩
      have g20 := hxe2 0 (by omega)
      have g21 := hxe2 1 (by omega)
      have g22 := hxe2 2 (by omega)
      have g23 := hxe2 3 (by omega)
      have g24 := hxe2 4 (by omega)
      have g25 := hxe2 5 (by omega)
      simp only [cells5] at g20 g21 g22 g23 g24 g25
      obtain ⟨b20, j20, _, u20⟩ := DataW.trod_int Tryz.underlying5 (show DataW.trod enc Tryz.prog W 0 (fun _ => true) true m2 5 [v2] = some z20 from g20)
      obtain ⟨b21, j21, _, u21⟩ := DataW.trod_int Tryz.underlying5 (show DataW.trod enc Tryz.prog W 0 (fun _ => true) true m2 5 [v3] = some z21 from g21)
      obtain ⟨b22, j22, _, u22⟩ := DataW.trod_int Tryz.underlying5 (show DataW.trod enc Tryz.prog W 0 (fun _ => true) true m2 5 [v4] = some z22 from g22)
      obtain ⟨b23, j23, _, u23⟩ := DataW.trod_int Tryz.underlying5 (show DataW.trod enc Tryz.prog W 0 (fun _ => true) true m2 5 [v5] = some z23 from g23)
      obtain ⟨b24, j24, _, u24⟩ := DataW.trod_int Tryz.underlying5 (show DataW.trod enc Tryz.prog W 0 (fun _ => true) true m2 5 [v6] = some z24 from g24)
      obtain ⟨b25, j25, _, u25⟩ := DataW.trod_int Tryz.underlying5 (show DataW.trod enc Tryz.prog W 0 (fun _ => true) true m2 5 [v7] = some z25 from g25)
      refine ⟨⟨n0, n1, b20, b21, b22, b23, b24, b25⟩, ⟨(wf_u32 w0).1, (wf_u32 w0).2, by unfold maxLen at w1; exact w1⟩, ?_⟩
      have e0 := List.head_eq_of_cons_eq e0
      have e1 := List.head_eq_of_cons_eq e1
      have j20 := List.head_eq_of_cons_eq j20
      have j21 := List.head_eq_of_cons_eq j21
      have j22 := List.head_eq_of_cons_eq j22
      have j23 := List.head_eq_of_cons_eq j23
      have j24 := List.head_eq_of_cons_eq j24
      have j25 := List.head_eq_of_cons_eq j25
      rw [e0, e1, j20, j21, j22, j23, j24, j25]
      rfl
set_option maxRecDepth 100000 in
theorem one_block {H : Type} {enc : TypeId × Value → H} {W : World} {fuel : Nat} {cs : List Value} {d : DataW H × List MemPlace} (h : DataW.trod enc Tryz.prog W 0 (fun _ => true) true fuel 46 cs = some d) : ∃ a : Int × Int, (0 ≤ a.1 ∧ a.1 < 4294967296) ∧ cs = blkl a := by
  obtain ⟨ys, n, _, _, hl', hy, hf⟩ := DataW.trod_struct Tryz.underlying46 h
  rw [cells46] at hl'
  match cs, hl' with
  | [v0, v1], _ =>
    have hy : ys.length = 2 := hy
    match ys, hy with
    | [y0, y1], _ =>
      have f0 := hf 0 _ rfl
      have f1 := hf 1 _ rfl
      simp only [cells40, cells3, List.drop_zero, List.drop_succ_cons, List.take_succ_cons, List.take_zero, List.getElem?_cons_zero, List.getElem?_cons_succ] at f0 f1
      obtain ⟨n0, e0, _, w0⟩ := DataW.trod_int Tryz.underlying40 f0
      obtain ⟨n1, e1, _, w1⟩ := DataW.trod_int Tryz.underlying3 f1
      refine ⟨(n0, n1), ⟨(wf_u32 w0).1, (wf_u32 w0).2⟩, ?_⟩
      have e0 := List.head_eq_of_cons_eq e0
      have e1 := List.head_eq_of_cons_eq e1
      rw [e0, e1]
      rfl
set_option maxRecDepth 100000 in
theorem one_sight {H : Type} {enc : TypeId × Value → H} {W : World} {fuel : Nat} {cs : List Value} {d : DataW H × List MemPlace} (h : DataW.trod enc Tryz.prog W 0 (fun _ => true) true fuel 49 cs = some d) : ∃ a : Sn.Sg, True ∧ cs = Sn.sl a := by
  obtain ⟨ys, n, _, _, hl', hy, hf⟩ := DataW.trod_struct Tryz.underlying49 h
  rw [cells49] at hl'
  match cs, hl' with
  | [v0, v1, v2, v3, v4, v5, v6, v7], _ =>
    have hy : ys.length = 3 := hy
    match ys, hy with
    | [y0, y1, y2], _ =>
      have f0 := hf 0 _ rfl
      have f1 := hf 1 _ rfl
      have f2 := hf 2 _ rfl
      simp only [cells47, cells42, cells3, List.drop_zero, List.drop_succ_cons, List.take_succ_cons, List.take_zero, List.getElem?_cons_zero, List.getElem?_cons_succ] at f0 f1 f2
      obtain ⟨n0, e0, _, w0⟩ := DataW.trod_int Tryz.underlying47 f0
      obtain ⟨xs1, m1, _, _, _, hxl1, hxe1⟩ := DataW.trod_array Tryz.underlying42 f1
      obtain ⟨z10, z11, z12, z13, z14, z15, rfl⟩ : ∃ a b c d e f, xs1 = [a, b, c, d, e, f] := by
        match xs1, hxl1 with
        | [a, b, c, d, e, f], _ => exact ⟨a, b, c, d, e, f, rfl⟩
      have g10 := hxe1 0 (by omega)
      have g11 := hxe1 1 (by omega)
      have g12 := hxe1 2 (by omega)
      have g13 := hxe1 3 (by omega)
      have g14 := hxe1 4 (by omega)
      have g15 := hxe1 5 (by omega)
      simp only [cells5] at g10 g11 g12 g13 g14 g15
      obtain ⟨b10, j10, _, u10⟩ := DataW.trod_int Tryz.underlying5 (show DataW.trod enc Tryz.prog W 0 (fun _ => true) true m1 5 [v1] = some z10 from g10)
      obtain ⟨b11, j11, _, u11⟩ := DataW.trod_int Tryz.underlying5 (show DataW.trod enc Tryz.prog W 0 (fun _ => true) true m1 5 [v2] = some z11 from g11)
      obtain ⟨b12, j12, _, u12⟩ := DataW.trod_int Tryz.underlying5 (show DataW.trod enc Tryz.prog W 0 (fun _ => true) true m1 5 [v3] = some z12 from g12)
      obtain ⟨b13, j13, _, u13⟩ := DataW.trod_int Tryz.underlying5 (show DataW.trod enc Tryz.prog W 0 (fun _ => true) true m1 5 [v4] = some z13 from g13)
      obtain ⟨b14, j14, _, u14⟩ := DataW.trod_int Tryz.underlying5 (show DataW.trod enc Tryz.prog W 0 (fun _ => true) true m1 5 [v5] = some z14 from g14)
      obtain ⟨b15, j15, _, u15⟩ := DataW.trod_int Tryz.underlying5 (show DataW.trod enc Tryz.prog W 0 (fun _ => true) true m1 5 [v6] = some z15 from g15)
      obtain ⟨n2, e2, _, w2⟩ := DataW.trod_int Tryz.underlying3 f2
      refine ⟨⟨n0, b10, b11, b12, b13, b14, b15, n2⟩, trivial, ?_⟩
      have e0 := List.head_eq_of_cons_eq e0
      have j10 := List.head_eq_of_cons_eq j10
      have j11 := List.head_eq_of_cons_eq j11
      have j12 := List.head_eq_of_cons_eq j12
      have j13 := List.head_eq_of_cons_eq j13
      have j14 := List.head_eq_of_cons_eq j14
      have j15 := List.head_eq_of_cons_eq j15
      have e2 := List.head_eq_of_cons_eq e2
      rw [e0, j10, j11, j12, j13, j14, j15, e2]
      rfl
set_option maxRecDepth 100000 in
theorem one_event {H : Type} {enc : TypeId × Value → H} {W : World} {fuel : Nat} {cs : List Value} {d : DataW H × List MemPlace} (h : DataW.trod enc Tryz.prog W 0 (fun _ => true) true fuel 51 cs = some d) : ∃ a : Evt, a.Ok ∧ cs = evl a := by
  obtain ⟨ys, n, _, _, hl', hy, hf⟩ := DataW.trod_struct Tryz.underlying51 h
  rw [cells51] at hl'
  match cs, hl' with
  | [v0, v1, v2, v3, v4, v5, v6, v7, v8, v9, v10, v11, v12, v13, v14, v15, v16, v17, v18], _ =>
    have hy : ys.length = 4 := hy
    match ys, hy with
    | [y0, y1, y2, y3], _ =>
      have f0 := hf 0 _ rfl
      have f1 := hf 1 _ rfl
      have f2 := hf 2 _ rfl
      have f3 := hf 3 _ rfl
      simp only [cells38, cells44, cells46, cells49, List.drop_zero, List.drop_succ_cons, List.take_succ_cons, List.take_zero, List.getElem?_cons_zero, List.getElem?_cons_succ] at f0 f1 f2 f3
      obtain ⟨n0, e0, _, w0⟩ := DataW.trod_int Tryz.underlying38 f0
      obtain rfl := List.head_eq_of_cons_eq e0
      obtain ⟨a1, o1, e1⟩ := one_holder f1
      obtain ⟨a2, o2, e2⟩ := one_block f2
      obtain ⟨a3, o3, e3⟩ := one_sight f3
      refine ⟨⟨n0, a1, a2.1, a2.2, a3⟩, ⟨o1, o2.1, o2.2⟩, ?_⟩
      simp only [Hl.hl, List.cons.injEq, and_true] at e1
      obtain ⟨rfl, rfl, rfl, rfl, rfl, rfl, rfl, rfl⟩ := e1
      simp only [blkl, List.cons.injEq, and_true] at e2
      obtain ⟨rfl, rfl⟩ := e2
      simp only [Sn.sl, List.cons.injEq, and_true] at e3
      obtain ⟨rfl, rfl, rfl, rfl, rfl, rfl, rfl, rfl⟩ := e3
      rfl
set_option maxRecDepth 100000 in
theorem open_event {H : Type} {enc : TypeId × Value → H} {W : World} {r : Reach} {q : Nat} {v : Value} {d : DataW H} {pp : List MemPlace} (hval : Value.okWide Tryz.prog W r q 51 v)
    (h : DataW.Trod enc Tryz.prog W 0 (fun _ => true) true 51 v d pp) : ∃ a : Evt, v = evv a ∧ a.Ok := by
  have hv' : ∃ cs, v = .agg cs ∧ cs.size = Tryz.prog.cellsOf 51 := by
    simp only [Value.okWide, Tryz.underlying51] at hval
    obtain ⟨cs, h1, h2, _⟩ := hval
    exact ⟨cs, h1, h2⟩
  obtain ⟨⟨cs⟩, rfl, hsz⟩ := hv'
  obtain ⟨fuel, hf⟩ := h
  obtain ⟨a, hk, hs⟩ := one_event hf
  simp only [Value.cells] at hs
  subst hs
  exact ⟨a, rfl, hk⟩
end Go.Proofs.YtilneflfeegnfaaGreat
namespace Go.Proofs.YtilneflfeegnfaaGreat.opsSame
open Go.ChangeShapes Go.WideShapes Go.ChangeAt Go.RowKit
open Go.ChangeMaps (open_string shut_string)
set_option maxRecDepth 100000 in
theorem lifted (os : Os) (started : os.Started) (H : Type) (enc : TypeId × Value → H) :
    ReturnsInHanded {} Tryz.checked os 4 .any (Rows.opsSameSpec.pre6 enc Tryz.prog Tryz.f4 Rows.opsSameRow.domain false) (Rows.opsSameSpec.post enc Tryz.prog Tryz.f4 false true false false) := by
  refine returnsInHanded_of_change_sized (C := Tryz.checked) own started (by kernel_rfl) Tryz.func4
    (ChangeSpec.witness6 (enc := enc) (C := Tryz.checked) false ⟨#[], #[.agg #[.int .u8 0, .int .u8 0, .int .u8 0, .int .u8 0, .int .u8 0, .int .u8 0, .int .u8 0, .int .u8 0, .int .u8 0], .slice none 0 0, .agg #[.int .i64 0, .int .u32 0, .string ⟨#[]⟩, .int .u8 0, .int .u8 0, .int .u8 0, .int .u8 0, .int .u8 0, .int .u8 0, .int .u32 0, .int .i64 0, .int .i64 0, .int .u8 0, .int .u8 0, .int .u8 0, .int .u8 0, .int .u8 0, .int .u8 0, .int .i64 0]], []⟩ 8 (by kernel_rfl) (by kernel_rfl) (by kernel_rfl) (by kernel_rfl)) ?_
  intro W base args ds gs before hval0 hW _ hsz0 _
  have hsz : (DataW.weightsEach Tryz.prog (Tryz.f4.params.toList ++ Rows.opsSameSpec.plain.varTypes Tryz.prog) (ds ++ gs)).all (· ≤ reachBytes) = true := hsz0
  have hval : ∀ (j : Nat) t v, Tryz.f4.params[j]? = some t → args[j]? = some v → Value.okWide Tryz.prog W .any base t v := hval0
  have hW' := hW
  obtain ⟨p, q, hA0, hV, rfl, hfz, hnd⟩ := hW
  have hA : DataW.TrodAll enc Tryz.prog W 0 (fun _ => true) true Tryz.f4.params.toList args.toList ds p := hA0
  rw [Tryz.params4] at hA hval hsz
  obtain ⟨v0, vs0, d0, ds0, p0, q0, hargs, rfl, rfl, h0, r0⟩ := trodAll_cons hA
  obtain ⟨v1, vs1, d1, ds1, p1, q1, rfl, rfl, rfl, h1, r1⟩ := trodAll_cons r0
  obtain ⟨v2, vs2, d2, ds2, p2, q2, rfl, rfl, rfl, h2, r2⟩ := trodAll_cons r1
  obtain ⟨rfl, rfl, rfl⟩ := trodAll_nil r2
  obtain rfl : args = #[v0, v1, v2] := by cases args; simp_all
  obtain ⟨rfl, rfl⟩ := trodVars_none hV
  have k0 := h0
  have lt0 : ∀ x ∈ p0, x.block < W.heap.size := by obtain ⟨m, hm⟩ := k0; exact DataW.trod_lt m _ _ _ hm
  obtain ⟨a0, rfl, w0⟩ := open_hc (hval 0 23 v0 rfl rfl) h0
  obtain ⟨a1, len1, cap1, rfl⟩ := okWide_slice Tryz.underlying24 (hval 1 24 v1 rfl rfl)
  have k1 := h1
  have lt1 : ∀ x ∈ p1, x.block < W.heap.size := by obtain ⟨m, hm⟩ := k1; exact DataW.trod_lt m _ _ _ hm
  obtain ⟨z1, rfl, w1, g1, o1⟩ := open_acts h1 (fun elems spare hd => sized_slice hsz (j := 1) (t := 24) (e := 79) rfl (by rw [hd]; rfl) Tryz.underlying24)
  have k2 := h2
  have lt2 : ∀ x ∈ p2, x.block < W.heap.size := by obtain ⟨m, hm⟩ := k2; exact DataW.trod_lt m _ _ _ hm
  obtain ⟨a2, rfl, w2⟩ := open_event (hval 2 51 v2 rfl rfl) h2
  clear hA0 hval0 hsz0
  refine (opsSame_walk a0 a1 z1 cap1 a2 W w0 w1 g1 o1 w2).mono fun e W' ⟨he, bel⟩ => ?_
  subst he
  exact ⟨_, rfl, _, _, _, [], _, [], hW', trodAll_mk1 (shut_bool Tryz.underlying4 _), (trodAll_cons_mk (Below.trod laidOut (by kernel_rfl) (of_decide_eq_true (by kernel_rfl)) k0 bel lt0) (trodAll_cons_mk (Below.trod laidOut (by kernel_rfl) (of_decide_eq_true (by kernel_rfl)) k1 bel lt1) (trodAll_cons_mk (Below.trod laidOut (by kernel_rfl) (of_decide_eq_true (by kernel_rfl)) k2 bel lt2) trodAll_mk0))), rfl, bel.frame _, fun h => by cases h⟩
theorem over : Rows.OpsSameSaid :=
  OpenClaim.holds_of_wide 4 Tryz.f4 rfl rfl rfl rfl rfl rfl rfl ⟨rfl, rfl, rfl, rfl, rfl⟩ rfl rfl rfl rfl rfl (by kernel_rfl) Tryz.func4 (by kernel_rfl)
    (of_decide_eq_true (by kernel_rfl)) (by unfold Func.isWrapper; first | (rw [if_pos (by decide +kernel)]; kernel_rfl) | (rw [if_neg (by decide +kernel)]; exact ⟨rfl, rfl⟩))
    (fun os started H enc _ => lifted os started H enc)
end Go.Proofs.YtilneflfeegnfaaGreat.opsSame
namespace Go.Proofs.YtilneflfeegnfaaGreat
theorem opsSame_holds : Rows.OpsSameSaid := opsSame.over
end Go.Proofs.YtilneflfeegnfaaGreat
