/-
  Part of the proof: several texts in one file. No condition of its own.
-/
import Derived.Test.YtilneflfeegnfaaGreatPLd
import Derived.Lib.MinMax
set_option linter.unusedSimpArgs false
set_option linter.unusedVariables false
namespace Go.Proofs.YtilneflfeegnfaaGreat
open Go.RowKit
def wnt (c : Cf) (x : Stt) (a : Int) : Bool := Hl.isAt x.hs a || (Sn.any (Sn.sg x.kn a) && wi x.now (Sn.tk (Sn.sg x.kn a)) c.b)
theorem kp_r {f : FuncId} {args : Array Value} {W : World} {ys : List Sn.Kp} {Φ : List (Value → World → Prop)} {i : Nat} (h : Calls Tryz.prog f args W (Sn.KPost W ys)) (hi : fAt Φ i = rF Rk ys) :
    Calls Tryz.prog f args W fun e w' => ∃ v, e = .returned v ∧ Below W.heap.size W w' ∧ fAt Φ i v w' := by
  rw [hi]
  exact h.mono fun e w' ⟨v, he, hb, A, cap, hv, hc, _, hr⟩ => ⟨v, he, hb, A, cap, hv, hc, hr⟩
theorem callFunc_enter {f : FuncId} {fn : Func} {c : Code} (hf : Tryz.prog.funcs[f]? = some fn) (hname : (fn.name == "runtime.NumGoroutine") = false) (hb : fn.body = some c) (args : Array Value) (w : World) :
    (callFunc f args).run Tryz.prog w = .ok (.enter f args) w := by
  have h1 : fn.name ≠ "runtime.NumGoroutine" := by simpa using hname
  simp [callFunc, hf, h1, hb]
theorem tk_in {x : Stt} (h : In x) {k : Sn.Kp} (hk : k ∈ x.kn) : 0 ≤ Sn.tk k.ss ∧ Sn.tk k.ss ≤ x.now := by
  have h1 := ((Sn.rsB_iff _).1 (h.kv.ok k hk)).1.1
  unfold Sn.tk
  rw [List.getElem?_eq_getElem (by omega)]
  exact h.kt k hk _ (List.getElem_mem _)
theorem wnt_eq {x : Stt} (h : In x) (c : Cf) {k : Sn.Kp} (hk : k ∈ x.kn) : wnt c x k.a = (Hl.isAt x.hs k.a || decide (x.now - Sn.tk k.ss < c.b)) := by
  obtain ⟨h1, h2⟩ := h.kv.srt.mem hk
  obtain ⟨h3, h4⟩ := tk_in h hk
  have h5 := h.n1
  unfold wnt
  rw [h.kv.any, h1, h2, Bool.true_and]
  congr 1
  unfold wi si
  rw [cl_in (by omega) h5, cl_in h3 (by omega), show decide (0 ≤ x.now - Sn.tk k.ss) = true from decide_eq_true (by omega), Bool.true_and]
theorem t4_wnt {x : Stt} (h : In x) (c : Cf) : t4 c x = { x with kn := x.kn.filter fun k => Sn.wB (wnt c x) k.a } := by
  unfold t4
  congr 1
  exact List.filter_congr fun k hk => (wnt_eq h c hk).symm
set_option maxRecDepth 100000 in
set_option maxHeartbeats 4000000 in
theorem fg_any (c : Cf) (x : Stt) (r : Rws) (a : Int) (b sb cb : Nat) (w : World) (hp : w.cell? ⟨sb, 0, none⟩ = some (.pointer (some ⟨b, 0, none⟩))) (hc : Cm w cb c) (H : Sb w b (stl x r)) (h : Lie w x r) (ha0 : 0 ≤ a) (ha1 : a < 4294967296) :
    Calls Tryz.prog 100 #[.int .u32 a, .pointer (some ⟨sb, 0, none⟩), .pointer (some ⟨cb, 0, none⟩)] w fun e w' => e = .returned (.bool (wnt c x a)) ∧ Below w.heap.size w w' := by
  have HG := Lib.hid fun W (hW : Lie W x r) => Hl.get_any a r.h x.hs r.hc W hW.h hW.hc ha0 ha1
  have HL := Lib.hid fun W (hW : Lie W x r) => Sn.last_any a r.k x.kn r.kc W hW.k hW.kc ha0 ha1
  have HQ := Lib.hid (show wnt c x a = _ from by unfold wnt; rfl)
  obtain ⟨hld, hh⟩ : ∃ b, Hl.isAt x.hs a = b := ⟨_, rfl⟩
  obtain ⟨y, hy⟩ : ∃ y, Hl.gt x.hs a = y := ⟨_, rfl⟩
  obtain ⟨sn, hsn⟩ : ∃ b, Sn.any (Sn.sg x.kn a) = b := ⟨_, rfl⟩
  obtain ⟨t, ht⟩ : ∃ t, Sn.tk (Sn.sg x.kn a) = t := ⟨_, rfl⟩
  rw [hh, hy] at HG
  rw [hsn, ht] at HL
  rw [hh, hsn, ht] at HQ
  have PB := Lib.hid hp
  have C0 := Lib.hid hc
  have S0 := Lib.hid H
  have R0 := Lib.hid h
  have LP := Lib.hid (World.block_lt_of_cell? _ _ hp)
  obtain ⟨n, q, hs, sw, kn, pb, cs⟩ := x
  obtain ⟨A1, c1, A2, c2, A3, c3, A4, c4, A5, c5⟩ := r
  obtain ⟨xa, xb, xc, xd, xe, xf, xg, xh, xi⟩ := c
  dsimp only at HG HL HQ
  have HWI := Lib.hid fun W => Cs.within_any n t xb W
  obtain ⟨wv, hwv⟩ : ∃ wv, wi n t xb = wv := ⟨_, rfl⟩
  rw [hwv] at HWI HQ
  obtain ⟨a', o, m0, m1, m2, m3, m4, m5⟩ := y
  simp only [Hl.hv] at HG
  have k2 := S0.out.cx.key 2 _ rfl
  dsimp only at k2
  clear h H hc hh hy hsn ht hwv
  go_enter Tryz.func100, Tryz.ntmps100
  go_wp2_with fail
  refine (HG.out _ R0.out).mono ?_
  rintro e w1 ⟨rfl, hb⟩
  clear k2 hp
  have BX := Lib.hid (show Below w.heap.size w (w1.alloc (.cells #[.int .u32 a', .string o, .int .u8 m0, .int .u8 m1, .int .u8 m2, .int .u8 m3, .int .u8 m4, .int .u8 m5] 44)) from hb.trans ((Below.refl _ w1).alloc hb.size _))
  have R1 := Lib.hid (R0.out.below BX.out)
  have k4 := (S0.out.below BX.out).cx.key 4 _ rfl
  have kp : (w1.alloc (.cells #[.int .u32 a', .string o, .int .u8 m0, .int .u8 m1, .int .u8 m2, .int .u8 m3, .int .u8 m4, .int .u8 m5] 44)).cell? ⟨sb, 0, none⟩ = some (.pointer (some ⟨b, 0, none⟩)) := by rw [BX.out.cell (p := ⟨sb, 0, none⟩) LP.out]; exact PB.out
  dsimp only at k4
  clear hb
  go_wp2_with fail
  change Calls _ _ _ (w1.alloc (.cells #[.int .u32 a', .string o, .int .u8 m0, .int .u8 m1, .int .u8 m2, .int .u8 m3, .int .u8 m4, .int .u8 m5] 44)) _
  generalize w1.alloc (.cells #[.int .u32 a', .string o, .int .u8 m0, .int .u8 m1, .int .u8 m2, .int .u8 m3, .int .u8 m4, .int .u8 m5] 44) = W1 at *
  refine (HL.out _ R1.out).mono ?_
  rintro e w2 ⟨rfl, m, rfl⟩
  clear k4 kp
  have B2 := Lib.hid (bdrewN BX.out m)
  generalize W1.drewN m = W2 at *
  have kp : ∀ W, (∃ m, W = W2.drewN m) → W.cell? ⟨sb, 0, none⟩ = some (.pointer (some ⟨b, 0, none⟩)) := fun W hW => by
    obtain ⟨m, rfl⟩ := hW
    rw [(bdrewN B2.out m).cell (p := ⟨sb, 0, none⟩) LP.out]; exact PB.out
  have k0 : W2.cell? ⟨b, 0, none⟩ = some (.int .i64 n) := (S0.out.below B2.out).cx.key 0 _ rfl
  have kq : W2.cell? ⟨sb, 0, none⟩ = some (.pointer (some ⟨b, 0, none⟩)) := kp _ ⟨0, rfl⟩
  have kc : W2.cell? ⟨cb, 1, none⟩ = some (.int .i64 xb) := (C0.out.below B2.out).c1
  go_upto_region 3 with fail
  clear kp
  cases hld
  · cases sn
    · refine wp_region_quiet_lit (by kernel_rfl) (by kernel_rfl) ?_
      (try simp only [Act.put])
      repeat (go_big_quiet_step (fail))
      refine wpQuiet_nil ?_
      rintro w8 ⟨m8, rfl⟩
      go_wp2_with fail
      go_ret
      exact ⟨ret_bool (by rw [HQ.out]; rfl), bdrewN B2.out m8⟩
    · have HWR := Lib.hid fun (W : World) => (HWI.out W).mono (R' := fun e w' => e = .returned (.bool wv) ∧ w' = W) fun _ _ h => ⟨h.1, h.2.symm⟩
      refine wp_region_quiet_lit (by kernel_rfl) (by kernel_rfl) ?_
      (try simp only [Act.put])
      repeat (go_big_quiet_step ((go_at_call 95; exact Calls.quiet_of_same (HWR.out _))))
      refine wpQuiet_nil ?_
      rintro w8 ⟨m8, rfl⟩
      go_wp2_with fail
      go_ret
      exact ⟨ret_bool (by rw [HQ.out]; rfl), bdrewN B2.out m8⟩
  · refine wp_region_quiet_lit (by kernel_rfl) (by kernel_rfl) ?_
    (try simp only [Act.put])
    repeat (go_big_quiet_step (fail))
    refine wpQuiet_nil ?_
    rintro w8 ⟨m8, rfl⟩
    go_wp2_with fail
    go_ret
    exact ⟨ret_bool (by rw [HQ.out]; rfl), bdrewN B2.out m8⟩
set_option maxRecDepth 100000 in
set_option maxHeartbeats 4000000 in
theorem forgetS_any (c : Cf) (x : Stt) (r : Rws) (b : Nat) (w : World) (H : Sb w b (stl x r)) (h : Lie w x r) (hi : In x) :
    Calls Tryz.prog 60 #[cfv c, .pointer (some ⟨b, 0, none⟩)] w (PP w b (t4 c x) (.returned (.tuple #[]))) := by
  have B1 := Lib.hid (show Below w.heap.size w (w.alloc (Cfx c)) from (Below.refl _ w).alloc (Nat.le_refl _) _)
  have BB := Lib.hid (show Below (w.alloc (Cfx c)).heap.size (w.alloc (Cfx c)) ((w.alloc (Cfx c)).alloc (.cells #[.pointer (some ⟨b, 0, none⟩)] 83)) from (Below.refl _ _).alloc (Nat.le_refl _) _)
  have B0 := Lib.hid (bthen B1.out BB.out B1.out.size)
  have C0 := Lib.hid ((cm_box w c).below BB.out)
  have S0 := Lib.hid (H.below B0.out)
  have R0 := Lib.hid (h.below B0.out)
  have O0 := Lib.hid (Ob.of B0.out H.lt)
  have hp : ((w.alloc (Cfx c)).alloc (.cells #[.pointer (some ⟨b, 0, none⟩)] 83)).cell? ⟨w.heap.size + 1, 0, none⟩ = some (.pointer (some ⟨b, 0, none⟩)) := by simp
  have hl : w.heap.size + 1 < ((w.alloc (Cfx c)).alloc (.cells #[.pointer (some ⟨b, 0, none⟩)] 83)).heap.size := by simp
  have HQ := Lib.hid (t4_wnt hi c)
  have HBD := Lib.hid hi.kv.bd
  have HKA := Lib.hid hi.ka
  obtain ⟨W0, hW0⟩ : ∃ W0, (w.alloc (Cfx c)).alloc (.cells #[.pointer (some ⟨b, 0, none⟩)] 83) = W0 := ⟨_, rfl⟩
  have HW0 := Lib.hid hW0
  rw [hW0] at BB B0 C0 S0 R0 O0 hp hl
  have PB := Lib.hid fun W (hS : Below W0.heap.size W0 W) => (hS.cell (p := ⟨w.heap.size + 1, 0, none⟩) hl).trans hp
  have HFG := Lib.hid fun W (hS : Below W0.heap.size W0 W) => Sn.forget_any (wnt c x) 100 #[.pointer (some ⟨w.heap.size + 1, 0, none⟩), .pointer (some ⟨w.heap.size, 0, none⟩)] (fun args W => callFunc_enter Tryz.func100 (by kernel_rfl) rfl args W) r.k x.kn r.kc W (R0.out.below hS).k (R0.out.below hS).kc HBD.out
    (fun k hk V hV => fg_any c x r k.a b (w.heap.size + 1) w.heap.size V (PB.out V (hS.trans (hV.mono hS.size))) (C0.out.below (hS.trans (hV.mono hS.size))) (S0.out.below (hS.trans (hV.mono hS.size))) (R0.out.below (hS.trans (hV.mono hS.size))) (HKA.out k hk).1 (HKA.out k hk).2)
  obtain ⟨ys, hys⟩ : ∃ ys, (x.kn.filter fun k => Sn.wB (wnt c x) k.a) = ys := ⟨_, rfl⟩
  rw [hys] at HFG HQ
  clear h H hi hW0 hp hl hys HKA HBD
  obtain ⟨n, q, hs, sw, kn, pb, cs⟩ := x
  obtain ⟨A1, c1, A2, c2, A3, c3, A4, c4, A5, c5⟩ := r
  dsimp only at HFG HQ
  obtain ⟨xa, xb, xc, xd, xe, xf, xg, xh, xi⟩ := c
  simp only [cfv, Cfx] at HW0 ⊢
  go_enter Tryz.func60, Tryz.ntmps60
  go_wp2_with fail
  rw [HW0.out]
  refine wp_region_below_tail 7 [fx (.pointer (some ⟨b, 0, none⟩)), fx (.pointer (some ⟨b, 0, none⟩)), fx (.pointer (some ⟨b, 0, none⟩)), fx (.pointer (some ⟨b, 4, none⟩)), fx (.slice A3 kn.length c3), fx (.func (.func 100) #[] #[.pointer (some ⟨w.heap.size + 1, 0, none⟩), .pointer (some ⟨w.heap.size, 0, none⟩)]), rF Rk ys]
    (by kernel_rfl) (by simp) (by kernel_rfl) (by kernel_rfl) (by kernel_rfl) ?_ ?_ ?_
  · simp only [List.mem_cons, List.not_mem_nil, or_false]
    rintro φ (rfl | rfl | rfl | rfl | rfl | rfl | rfl)
    all_goals first | exact stable_fx _ | exact stable_rF hld_h _ | exact stable_rF hld_s _ | exact stable_rF hld_k _ | exact stable_rF hld_p _ | exact stable_rF hld_c _ | exact stable_tF hld_h _ _ | exact stable_tF hld_s _ _ | exact stable_tF hld_k _ _ | exact stable_tF hld_p _ _ | exact stable_tF hld_c _ _
  · refine OgSteps.cons ?_ (OgSteps.cons ?_ (OgSteps.cons ?_ (OgSteps.cons ?_ (OgSteps.cons ?_ (OgSteps.cons ?_ (OgSteps.cons ?_ (OgSteps.nil)))))))
    · refine OgStep.pure ?_ ?_
      · rfl
      intro u W hS hp
      have kp := PB.out W hS
      refine ⟨.pointer (some ⟨b, 0, none⟩), ?_, rfl⟩
      simp only [ogMk, Act.put, List.setIfInBounds_toArray, List.set_cons_zero, List.set_cons_succ, Nat.zero_add, Nat.reduceAdd, List.take_succ_cons, List.take_zero, List.drop_succ_cons, List.drop_zero]
      simp [execOp, Act.eval, go_sem, kp]
    · refine OgStep.pure ?_ ?_
      · rfl
      intro u W hS hp
      have kp := PB.out W hS
      refine ⟨.pointer (some ⟨b, 0, none⟩), ?_, rfl⟩
      simp only [ogMk, Act.put, List.setIfInBounds_toArray, List.set_cons_zero, List.set_cons_succ, Nat.zero_add, Nat.reduceAdd, List.take_succ_cons, List.take_zero, List.drop_succ_cons, List.drop_zero]
      simp [execOp, Act.eval, go_sem, kp]
    · refine OgStep.pure ?_ ?_
      · rfl
      intro u W hS hp
      have h1 : u 1 = .pointer (some ⟨b, 0, none⟩) := hp ⟨1, .data⟩ (by simp) rfl
      refine ⟨.pointer (some ⟨b, 0, none⟩), ?_, rfl⟩
      simp only [ogMk, Act.put, List.setIfInBounds_toArray, List.set_cons_zero, List.set_cons_succ, Nat.zero_add, Nat.reduceAdd, List.take_succ_cons, List.take_zero, List.drop_succ_cons, List.drop_zero]
      simp [execOp, Act.eval, go_sem, h1]
    · refine OgStep.pure ?_ ?_
      · rfl
      intro u W hS hp
      have h2 : u 2 = .pointer (some ⟨b, 0, none⟩) := hp ⟨2, .data⟩ (by simp) rfl
      refine ⟨.pointer (some ⟨b, 4, none⟩), ?_, rfl⟩
      simp only [ogMk, Act.put, List.setIfInBounds_toArray, List.set_cons_zero, List.set_cons_succ, Nat.zero_add, Nat.reduceAdd, List.take_succ_cons, List.take_zero, List.drop_succ_cons, List.drop_zero]
      simp [execOp, Act.eval, go_sem, h2]
    · refine OgStep.pure ?_ ?_
      · rfl
      intro u W hS hp
      have h3 : u 3 = .pointer (some ⟨b, 4, none⟩) := hp ⟨3, .data⟩ (by simp) rfl
      have k4 := (S0.out.below hS).cx.key 4 _ rfl
      dsimp only at k4
      refine ⟨.slice A3 kn.length c3, ?_, rfl⟩
      simp only [ogMk, Act.put, List.setIfInBounds_toArray, List.set_cons_zero, List.set_cons_succ, Nat.zero_add, Nat.reduceAdd, List.take_succ_cons, List.take_zero, List.drop_succ_cons, List.drop_zero]
      simp [execOp, Act.eval, go_sem, h3, k4]
    · refine OgStep.pure ?_ ?_
      · rfl
      intro u W hS hp
      refine ⟨.func (.func 100) #[] #[.pointer (some ⟨w.heap.size + 1, 0, none⟩), .pointer (some ⟨w.heap.size, 0, none⟩)], ?_, rfl⟩
      simp only [ogMk, Act.put, List.setIfInBounds_toArray, List.set_cons_zero, List.set_cons_succ, Nat.zero_add, Nat.reduceAdd, List.take_succ_cons, List.take_zero, List.drop_succ_cons, List.drop_zero]
      simp [execOp, Act.eval, go_sem]
    · refine OgStep.calls ?_ ?_
      · rfl
      intro u W hS hp
      have h4 : u 4 = .slice A3 kn.length c3 := hp ⟨4, .data⟩ (by simp) rfl
      have h5 : u 5 = .func (.func 100) #[] #[.pointer (some ⟨w.heap.size + 1, 0, none⟩), .pointer (some ⟨w.heap.size, 0, none⟩)] := hp ⟨5, .data⟩ (by simp) rfl
      refine ⟨99, #[.slice A3 kn.length c3, .func (.func 100) #[] #[.pointer (some ⟨w.heap.size + 1, 0, none⟩), .pointer (some ⟨w.heap.size, 0, none⟩)]], ?_, kp_r (HFG.out W hS) rfl⟩
      simp only [ogMk, Act.put, List.setIfInBounds_toArray, List.set_cons_zero, List.set_cons_succ, Nat.zero_add, Nat.reduceAdd, List.take_succ_cons, List.take_zero, List.drop_succ_cons, List.drop_zero]
      simp [execOp, Act.eval, go_sem, h4, h5]
  · intro u W hS hF
    have e0 : u 0 = .pointer (some ⟨b, 0, none⟩) := hF 0 (by decide)
    have e1 : u 1 = .pointer (some ⟨b, 0, none⟩) := hF 1 (by decide)
    have e2 : u 2 = .pointer (some ⟨b, 0, none⟩) := hF 2 (by decide)
    have e3 : u 3 = .pointer (some ⟨b, 4, none⟩) := hF 3 (by decide)
    have e4 : u 4 = .slice A3 kn.length c3 := hF 4 (by decide)
    have e5 : u 5 = .func (.func 100) #[] #[.pointer (some ⟨w.heap.size + 1, 0, none⟩), .pointer (some ⟨w.heap.size, 0, none⟩)] := hF 5 (by decide)
    obtain ⟨A6, c6, e6, hc6, hR6⟩ : rF Rk ys (u 6) W := hF 6 (by decide)
    simp only [ogMk, Act.put, List.setIfInBounds_toArray, List.set_cons_zero, List.set_cons_succ, Nat.zero_add, Nat.reduceAdd, List.take_succ_cons, List.take_zero, List.drop_succ_cons, List.drop_zero]
    rw [e0, e1, e2, e3, e4, e5, e6]
    clear e0 e1 e2 e3 e4 e5 e6 hF
    have R1 := Lib.hid (R0.out.below hS)
    have S1 := Lib.hid (S0.out.below hS)
    have O1 := Lib.hid (O0.out.trans (Ob.of hS S0.out.lt))
    clear hS
    go_wp2_with (refine at_fieldSt 31 _ _ b [.int .i64 n, .int .i64 q, .slice A1 hs.length c1, .slice A2 sw.length c2] (.slice A3 kn.length c3) (.slice A6 ys.length c6) [.slice A4 pb.length c4, .slice A5 cs.length c5] S1.out sizeRk rfl (ns_sl _ _ _) rfl rfl rfl rfl rfl ?_)
    intro w3 S3 hb3 hk3
    have O3 := Lib.hid (O1.out.trans (Ob.put hb3.out hk3.out))
    have R3 := Lib.hid (show Lie w3 ⟨n, q, hs, sw, ys, pb, cs⟩ ⟨A1, c1, A2, c2, A6, c6, A4, c4, A5, c5⟩ from
      { R1.out.apart S1.out.bs hk3.out with k := ks_apart hR6 S1.out.bs hk3.out, kc := hc6 })
    go_wp2_with fail
    go_end0
    refine ⟨rfl, ?_, O3.out⟩
    rw [HQ.out]
    exact ⟨⟨A1, c1, A2, c2, A6, c6, A4, c4, A5, c5⟩, S3.out, R3.out⟩
end Go.Proofs.YtilneflfeegnfaaGreat
namespace Go.Proofs.YtilneflfeegnfaaGreat
open Go.RowKit
def Rpf (B : Nat) := fun w A xs => Rw Pb.eP w A xs ∧ ∀ y : Addr, A = some y → B ≤ y.block
def Rsf (B : Nat) := fun w A xs => Rw Sw.eW w A xs ∧ ∀ y : Addr, A = some y → B ≤ y.block
def Raf (B : Nat) := fun w A xs => Rw Sw.eA w A xs ∧ ∀ y : Addr, A = some y → B ≤ y.block
theorem hld_pf (B : Nat) : Hld (Rpf B) := fun _ _ _ _ h hb => ⟨h.1.below hb, h.2⟩
theorem hld_sf (B : Nat) : Hld (Rsf B) := fun _ _ _ _ h hb => ⟨h.1.below hb, h.2⟩
theorem hld_af (B : Nat) : Hld (Raf B) := fun _ _ _ _ h hb => ⟨h.1.below hb, h.2⟩
theorem tp_pf {f : FuncId} {args : Array Value} {W : World} {ys : List Pb.Pr} {q : Int} {B : Nat} (h : Calls Tryz.prog f args W (Pb.OutPost W ys q)) (hB : B ≤ W.heap.size) : Calls Tryz.prog f args W (TP (Rpf B) W ys q) := h.mono fun _ _ ⟨A, cap, he, hc, _, hr, hb, hf⟩ => ⟨A, cap, he, hc, ⟨hr, fun y hy => Nat.le_trans hB (hf y hy)⟩, hb⟩
def wF {α β : Type} (R1 : World → Option Addr → List α → Prop) (R2 : World → Option Addr → List β → Prop) (xs : List α) (ys : List β) : Value → World → Prop := fun v W => ∃ A1 c1 A2 c2, v = .tuple #[.slice A1 xs.length c1, .slice A2 ys.length c2] ∧ (xs.length ≤ c1 ∧ R1 W A1 xs) ∧ (0 ≤ c2 ∧ R2 W A2 ys)
def rG {α : Type} (R : World → Option Addr → List α → Prop) (xs : List α) : Value → World → Prop := fun v W => ∃ A c, v = .slice A xs.length c ∧ 0 ≤ c ∧ R W A xs
theorem stable_rG {α : Type} {R : World → Option Addr → List α → Prop} (h : Hld R) (xs : List α) : Stable (rG R xs) := fun _ w w' ⟨A, c, hv, hc, hr⟩ hb => ⟨A, c, hv, hc, h w w' A xs hr hb⟩
theorem stable_wF {α β : Type} {R1 : World → Option Addr → List α → Prop} {R2 : World → Option Addr → List β → Prop} (h1 : Hld R1) (h2 : Hld R2) (xs : List α) (ys : List β) : Stable (wF R1 R2 xs ys) := fun _ w w' ⟨A, c, A2, c2, hv, hc, hr⟩ hb => ⟨A, c, A2, c2, hv, ⟨hc.1, h1 w w' A xs hc.2 hb⟩, ⟨hr.1, h2 w w' A2 ys hr.2 hb⟩⟩
theorem calls_late {f : FuncId} {args : Array Value} {W : World} {S : List Pb.Pr × List Pb.Pr} {Φ : List (Value → World → Prop)} {i : Nat} (h : Calls Tryz.prog f args W (Pb.TwoPost W S)) (hi : fAt Φ i = wF Rp Rp S.1 S.2) :
    Calls Tryz.prog f args W fun e w' => ∃ v, e = .returned v ∧ Below W.heap.size W w' ∧ fAt Φ i v w' := by
  rw [hi]
  exact h.mono fun e w' ⟨A1, c1, A2, c2, he, h1, h2, r1, r2, hb⟩ => ⟨_, he, hb, A1, c1, A2, c2, rfl, ⟨h1, r1⟩, ⟨Nat.zero_le _, r2⟩⟩
theorem calls_plan {f : FuncId} {args : Array Value} {W : World} {S : List Sw.Sw × List Int} {B : Nat} {Φ : List (Value → World → Prop)} {i : Nat} (h : Calls Tryz.prog f args W (Sw.PlanPost W S)) (hB : B ≤ W.heap.size) (hi : fAt Φ i = wF (Rsf B) (Raf B) S.1 S.2) :
    Calls Tryz.prog f args W fun e w' => ∃ v, e = .returned v ∧ Below W.heap.size W w' ∧ fAt Φ i v w' := by
  rw [hi]
  exact h.mono fun e w' ⟨A1, c1, A2, c2, he, h1, r1, r2, hb, f1, f2⟩ => ⟨_, he, hb, A1, c1, A2, c2, rfl, ⟨h1, r1, fun y hy => Nat.le_trans hB (f1 y hy)⟩, ⟨Nat.zero_le _, r2, fun y hy => Nat.le_trans hB (f2 y hy)⟩⟩
def zkv : Value := .agg #[.bool false, .int .u32 0, .int .u32 0, .agg #[.int .u8 0, .int .u8 0, .int .u8 0, .int .u8 0, .int .u8 0, .int .u8 0], .int .i64 0, .int .i64 0]
theorem infoPk : (Tryz.prog.info? 103).map (fun i => (i.zero.map (·.cells.size), i.size, decide (i.bytes ≤ 100))) = some (some 11, 11, true) := by kernel_rfl
theorem tK : Ty ePk 52 103 := ⟨Tryz.underlying52, by
  obtain ⟨i, hi, he⟩ := Option.map_eq_some_iff.1 infoPk
  simp only [Prod.mk.injEq, Option.map_eq_some_iff, decide_eq_true_eq] at he
  obtain ⟨⟨z, hz, hc⟩, hs, hb⟩ := he
  exact ⟨i, z, i.bytes, hi, hz, hs, rfl, hc, hb⟩⟩
theorem own_ob {w w' : World} {b base : Nat} {e : TypeId} {size : Nat} {v : Value} {n : Nat} {xs : List Value} (h : w.ownsRow base e size v n xs) (k : Ob b w w') (hb : b < base) : w'.ownsRow base e size v n xs := by
  refine ⟨h.1, h.2.imp id ?_⟩
  rintro ⟨g, cap, cur, e1, e2, e3, r⟩
  refine ⟨g, cap, cur, e1, e2, ?_, r⟩
  rw [k.oth g (by omega) (Array.getElem?_eq_some_iff.1 e3).1]
  exact e3
theorem Ob.grown {b : Nat} {w1 w w' : World} {v : Value} (h : Ob b w1 w) (hg : w.grownBy w' v.ownBlock) (hv : ∀ g, v.ownBlock = some g → w1.heap.size ≤ g) (hb : b < w1.heap.size) : Ob b w1 w' := by
  refine ⟨h.bel.trans ⟨hg.os, hg.tape, hg.output, hg.size, fun k hk => hg.block k (Nat.lt_of_lt_of_le (Nat.lt_trans hk hb) h.size) fun e => by have := hv k e.symm; omega⟩, fun k h1 h2 => ?_⟩
  rw [hg.block k (Nat.lt_of_lt_of_le h2 h.size) fun e => by have := hv k e.symm; omega]
  exact h.oth k h1 h2
def Av (A : Option Addr) (n : Nat) (v : Value) : Prop := ∀ y g, A = some y → 0 < n → v.ownBlock = some g → y.block ≠ g
theorem rw_av {α : Type} {E : El α} {w w' : World} {A : Option Addr} {xs : List α} {v : Value} (h : Rw E w A xs) (hg : w.grownBy w' v.ownBlock) (ha : Av A xs.length v) : Rw E w' A xs := by
  refine ⟨h.1, fun q x hq => ?_⟩
  obtain ⟨y, hy, hc⟩ := h.2 q x hq
  refine ⟨y, hy, fun j u hu => ?_⟩
  have hq' := (List.getElem?_eq_some_iff.1 hq).1
  have hlt := World.block_lt_of_cell? _ _ (hc j u hu)
  rw [World.cell?_of_block (hg.block _ hlt fun e => ha y _ hy (by omega) e.symm (by rw [add_block]))]
  exact hc j u hu
theorem rw_lt' {α : Type} {E : El α} {w : World} {A : Option Addr} {xs : List α} (h : Rw E w A xs) : ∀ y, A = some y → 0 < xs.length → y.block < w.heap.size := fun y hy hp => by
  obtain ⟨x, hx⟩ : ∃ x, xs[0]? = some x := ⟨_, List.getElem?_eq_getElem hp⟩
  obtain ⟨z, hz, hc⟩ := h.2 0 x hx
  rw [hy] at hz
  obtain rfl := Option.some.inj hz
  obtain ⟨u, hu⟩ : ∃ u, (E.cl x)[0]? = some u := ⟨_, List.getElem?_eq_getElem (by rw [E.len]; exact E.pos)⟩
  have hlt := World.block_lt_of_cell? _ _ (hc 0 u hu)
  rwa [add_block] at hlt
theorem Av.next {α : Type} {E : El α} {w : World} {A : Option Addr} {xs : List α} {v v' : Value} (h : Av A xs.length v) (hr : Rw E w A xs) (hn : v'.ownBlock = v.ownBlock ∨ v'.ownBlock = some w.heap.size) : Av A xs.length v' := by
  intro y g hy h0 hv
  rcases hn with e | e
  · exact h y g hy h0 (e ▸ hv)
  · rw [e] at hv
    obtain rfl := Option.some.inj hv
    have := rw_lt' hr y hy h0
    omega
theorem pk_box (W : World) (p : Pb.Pk) : Rw ePk (W.alloc (Pb.Pkx p)) (some ⟨W.heap.size, 0, none⟩) [p] := by
  refine ⟨by simp, fun q x hq => ⟨_, rfl, fun j v hv => ?_⟩⟩
  match q, hq with
  | 0, hq =>
    obtain rfl : p = x := by simpa using hq
    have := (show Cx (W.alloc (Pb.Pkx p)) W.heap.size (Pb.pkl p) from cx_box W _ _ _ rfl).key j v hv
    by_cases hj : j = 0
    · subst hj
      simpa [Addr.add, ePk] using this
    · simpa [Addr.add, ePk, hj] using this
  | q + 1, hq => simp at hq
end Go.Proofs.YtilneflfeegnfaaGreat
namespace Go.Proofs.YtilneflfeegnfaaGreat
open Go.RowKit
structure Ck (c : Cf) : Prop where
  a0 : 1 ≤ c.a
  ab : c.a ≤ c.b
  b1 : c.b ≤ 10000
  c0 : 1 ≤ c.c
  c1 : c.c ≤ 6
  e0 : 1 ≤ c.e
  e1 : c.e ≤ 64
  g1 : c.g ≤ 8
  i0 : 0 ≤ c.i
  h0 : 1 ≤ c.h
def Nb (B : Nat) : Value → World → Prop := fun v W => ∃ g, v = .pointer (some ⟨g, 0, none⟩) ∧ B ≤ g ∧ Cx W g (Pb.prl Pb.zr)
theorem stable_nb (B : Nat) : Stable (Nb B) := fun _ _ _ ⟨g, hv, hg, hx⟩ hb => ⟨g, hv, hg, Cx.below hx hb⟩
theorem cx_ob9 {w w' : World} {g : Nat} {x : Pb.Pr} (h : Cx w g (Pb.prl x)) (hb : Below w.heap.size w w') : Cx w' g (Pb.prl x) := Cx.below h hb
theorem mk_a : Mk Sw.eA := fun x => ⟨0, _, rfl, u32_no _⟩
theorem sizeInt : (Tryz.prog.info? 3).map (·.size) = some 1 := by kernel_rfl
theorem sizePr : (Tryz.prog.info? 97).map (·.size) = some 5 := by kernel_rfl
set_option maxRecDepth 100000 in
set_option maxHeartbeats 4000000 in
theorem replaceP_x (b : Nat) (p : List Value) (u : Value) (A : Option Addr) (m cap : Nat) (s : List Value) (er : Int) (w : World) (H : Sb w b (p ++ (u :: s))) :
    Calls Tryz.prog 103 #[.pointer (some ⟨b, p.length, none⟩), .slice A m cap, .int .i64 er] w fun e w' => e = .returned (.int .i64 er) ∧ Sb w' b (p ++ ((if er = 0 then .slice A m cap else u) :: s)) ∧ (∀ B, B ≤ b → Below B w w') ∧ ∀ k, k ≠ b → w'.heap[k]? = w.heap[k]? := by
  have S0 := Lib.hid H
  clear H
  by_cases h0 : er = 0
  · subst h0
    rw [if_pos rfl]
    go_enter Tryz.func103, Tryz.ntmps103
    go_wp2_with (refine at_fieldSt 32 _ _ b p u (.slice A m cap) s S0.out sizeRp rfl (ns_sl _ _ _) rfl rfl rfl rfl rfl ?_)
    intro w3 S3 hb3 hk3
    go_wp2_with fail
    go_ret
    exact ⟨rfl, S3.out, hb3.out, hk3.out⟩
  · rw [if_neg h0]
    go_enter Tryz.func103, Tryz.ntmps103
    go_wp2_with fail
    go_ret
    exact ⟨rfl, S0.out, fun B _ => Below.refl _ _, fun _ _ => rfl⟩
theorem t5q_keep (S : Stt × List Pb.Pk) (a : Int) : (t5q S a).1 = { S.1 with seq := (t5q S a).1.seq, pb := (t5q S a).1.pb } := by
  unfold t5q
  split <;> rfl
theorem t5q_len (S : Stt × List Pb.Pk) (a : Int) : (t5q S a).2.length ≤ S.2.length + 1 := by
  unfold t5q
  split <;> simp
theorem fold5_len : ∀ (l : List Int) (S : Stt × List Pb.Pk), (l.foldl t5q S).2.length ≤ S.2.length + l.length
  | [], _ => by simp
  | a :: l, S => by
    have h1 := fold5_len l (t5q S a)
    have h2 := t5q_len S a
    simp only [List.foldl_cons, List.length_cons]
    omega
theorem Sb.grown {w w' : World} {b : Nat} {L : List Value} {v : Value} (h : Sb w b L) (hg : w.grownBy w' v.ownBlock) (hv : ∀ g, v.ownBlock = some g → b < g) : Sb w' b L := by
  have hb := h.lt
  have e := hg.block b hb fun e => by have := hv b e.symm; omega
  have f : ∀ a : Addr, a.block = b → w'.cell? a = w.cell? a := fun a ha => World.cell?_of_block (by rw [ha]; exact e)
  have g : ∀ a : Addr, a.block = b → w'.frozen? a = w.frozen? a := fun a ha => World.frozen?_of_block (by rw [ha]; exact e)
  exact ⟨⟨fun j v hv => by rw [f _ rfl]; exact h.cx.1 j v hv, fun j hj => ⟨by rw [f _ rfl]; exact (h.cx.2 j hj).1, by rw [g _ rfl]; exact (h.cx.2 j hj).2⟩⟩, h.len, fun a v ha hv => h.bs a v ha (by rw [← f a ha]; exact hv)⟩
structure Lp (b : Nat) (W1 : World) (x7 : Stt) (r7 : Rws) (As Aa : Option Addr) (ss : List Sw.Sw) (zs : List Int) (S : Stt × List Pb.Pk) (v : Value) (w : World) : Prop where
  ob : Ob b W1 w
  eq : S.1 = { x7 with seq := S.1.seq, pb := S.1.pb }
  sb : ∃ A c, Sb w b (stl S.1 { r7 with p := A, pc := c }) ∧ S.1.pb.length ≤ c ∧ Rw Pb.eP w A S.1.pb ∧ Av A S.1.pb.length v
  own : w.ownsRow W1.heap.size 103 11 v S.2.length (ePk.cs S.2)
  rs : Rw Sw.eW w As ss
  avs : Av As ss.length v
  ra : Rw Sw.eA w Aa zs
  ava : Av Aa zs.length v
  inn : In S.1
set_option maxRecDepth 100000 in
set_option maxHeartbeats 8000000 in
theorem askS_any (c : Cf) (x : Stt) (r : Rws) (b : Nat) (w : World) (H : Sb w b (stl x r)) (h : Lie w x r) (hi : In x) (hk : Ck c) :
    Calls Tryz.prog 61 #[cfv c, .pointer (some ⟨b, 0, none⟩)] w fun e w' => (∃ A cap, e = .returned (.slice A (t5 c x).2.length cap) ∧ (t5 c x).2.length ≤ cap ∧ Rw ePk w' A (t5 c x).2) ∧ (∃ r', Sb w' b (stl (t5 c x).1 r') ∧ Lie w' (t5 c x).1 r') ∧ Ob b w w' := by
  have B0 := Lib.hid (show Below w.heap.size w (w.alloc (Cfx c)) from (Below.refl _ w).alloc (Nat.le_refl _) _)
  have C0 := Lib.hid (cm_box w c)
  have S0 := Lib.hid (H.below B0.out)
  have R0 := Lib.hid (h.below B0.out)
  have LT := Lib.hid H.lt
  have O0 := Lib.hid (Ob.of B0.out H.lt)
  have HLT := Lib.hid fun W (hW : Lie W x r) => Pb.late_any c x.now c.e r.p x.pb r.pc W hW.p (by have := hi.p16; omega) hi.pv.n
  have hv1 := Pb.lt_ok (wt := c.f) (ag := c.g) (now := x.now) (room := c.e) hi.pv hk.g1
  have hl2 := Pb.lt_room (wt := c.f) (ag := c.g) (now := x.now) (room := c.e) x.pb
  have he0 := hk.e0
  have he1 := hk.e1
  obtain ⟨⟨k1, k2⟩, hL⟩ : ∃ L, Pb.ltO c.f c.g x.now c.e x.pb = L := ⟨_, rfl⟩
  have HQ := Lib.hid (show t5 c x = _ from by unfold t5; rw [hL])
  rw [hL] at HLT hv1 hl2
  dsimp only at hv1 hl2 HQ
  have hl1 := hv1.r.few
  have hl2' : (k2.length : Int) ≤ c.e := by omega
  obtain ⟨room, hroom⟩ : ∃ room, min (c.e - (k2.length : Int)) (16 - (k1.length : Int)) = room := ⟨_, rfl⟩
  have hrm : max 0 (min (c.e - (k2.length : Int)) (16 - (k1.length : Int))) = room := by omega
  have HPL := Lib.hid fun W (hW : Rw Sw.eW W r.s x.sw) => Sw.plan_any c x.now room r.s x.sw r.sc W hW h.sc hi.sv.r.few hi.sv.sv (by omega) (by omega)
  have hi7 := (hi.pb' hv1).sw' (Sw.planO_ok hi.sv c.d x.now room).1
  have hpi := plan_in hi.sv c.d x.now room
  have ha1 : (Sw.planO x.sw c.d x.now room).2.length ≤ 64 := by
    have := Sw.plan_few x.sw c.d room (Sw.ord x.sw x.now)
    unfold Sw.planO
    omega
  rw [hroom] at HQ
  obtain ⟨⟨s1, a1⟩, hP⟩ : ∃ Q, Sw.planO x.sw c.d x.now room = Q := ⟨_, rfl⟩
  rw [hP] at HPL HQ hi7 hpi ha1
  dsimp only at hi7 hpi HQ ha1
  have hs16 := hi7.sv.r.few
  dsimp only at hs16
  have HI7 := Lib.hid hi7
  have HPI := Lib.hid hpi
  have HA1 := Lib.hid ha1
  have hn0 := hi.n0
  have hn1 := hi.n1
  have hq0 := hi.q0
  have hq1 := hi.q1
  clear h H hi hk hv1 hL hP hi7 hpi hroom hl2 ha1
  obtain ⟨n, q, hs, sw, kn, pb, cs⟩ := x
  obtain ⟨A1, c1, A2, c2, A3, c3, A4, c4, A5, c5⟩ := r
  dsimp only at HLT HPL HQ hn0 hn1 hq0 hq1 HI7
  obtain ⟨xa, xb, xc, xd, xe, xf, xg, xh, xi⟩ := c
  simp only [cfv, Cfx] at B0 C0 S0 R0 O0 HLT HPL hrm hl2' he0 he1 ⊢
  go_enter Tryz.func61, Tryz.ntmps61
  go_wp2_with fail
  change (Code.region _ _ _).wp _ _ _ (w.alloc (.cells #[.int .i64 xa, .int .i64 xb, .int .i64 xc, .int .i64 xd, .int .i64 xe, .int .i64 xf, .int .i64 xg, .int .i64 xh, .int .i64 xi] 27))
  generalize w.alloc (.cells #[.int .i64 xa, .int .i64 xb, .int .i64 xc, .int .i64 xd, .int .i64 xe, .int .i64 xf, .int .i64 xg, .int .i64 xh, .int .i64 xi] 27) = W0 at *
  refine wp_region_below [fx (.agg #[.int .i64 xa, .int .i64 xb, .int .i64 xc, .int .i64 xd, .int .i64 xe, .int .i64 xf, .int .i64 xg, .int .i64 xh, .int .i64 xi]), fx (.pointer (some ⟨b, 0, none⟩)), fx (.pointer (some ⟨b, 0, none⟩)), fx (.pointer (some ⟨b, 5, none⟩)), fx (.slice A4 pb.length c4), fx (.pointer (some ⟨b, 0, none⟩)), fx (.pointer (some ⟨b, 0, none⟩)), fx (.pointer (some ⟨b, 0, none⟩)), fx (.int .i64 n), fx (.pointer (some ⟨w.heap.size, 4, none⟩)), fx (.int .i64 xe), wF Rp Rp k1 k2, wF Rp Rp k1 k2, rF Rp k1, rG Rp k2, rF Rp k1, rG Rp k2]
    (by kernel_rfl) (by kernel_rfl) (by kernel_rfl) ?_ ?_ ?_
  · simp only [List.mem_cons, List.not_mem_nil, or_false]
    rintro φ (rfl | rfl | rfl | rfl | rfl | rfl | rfl | rfl | rfl | rfl | rfl | rfl | rfl | rfl | rfl | rfl | rfl)
    all_goals first | exact stable_fx _ | exact stable_rF hld_h _ | exact stable_rF hld_s _ | exact stable_rF hld_k _ | exact stable_rF hld_p _ | exact stable_rF hld_c _ | exact stable_tF hld_h _ _ | exact stable_tF hld_s _ _ | exact stable_tF hld_k _ _ | exact stable_tF hld_p _ _ | exact stable_tF hld_c _ _ | exact stable_tF (hld_pf _) _ _ | exact stable_rF (hld_pf _) _ | exact stable_rF (hld_sf _) _ | exact stable_rG (hld_af _) _ | exact stable_rG hld_p _ | exact stable_wF hld_p hld_p _ _ | exact stable_wF (hld_sf _) (hld_af _) _ _ | exact stable_nb _
  · refine OgSteps.cons ?_ (OgSteps.cons ?_ (OgSteps.cons ?_ (OgSteps.cons ?_ (OgSteps.cons ?_ (OgSteps.cons ?_ (OgSteps.cons ?_ (OgSteps.cons ?_ (OgSteps.cons ?_ (OgSteps.cons ?_ (OgSteps.cons ?_ (OgSteps.cons ?_ (OgSteps.cons ?_ (OgSteps.cons ?_ (OgSteps.cons ?_ (OgSteps.cons ?_ (OgSteps.cons ?_ (OgSteps.nil)))))))))))))))))
    · refine OgStep.pure ?_ ?_
      · rfl
      intro u W hS hp
      have C := C0.out.below hS
      have k0 := C.c0
      have k1 := C.c1
      have k2 := C.c2
      have k3 := C.c3
      have k4 := C.c4
      have k5 := C.c5
      have k6 := C.c6
      have k7 := C.c7
      have k8 := C.c8
      dsimp only at k0 k1 k2 k3 k4 k5 k6 k7 k8
      refine ⟨.agg #[.int .i64 xa, .int .i64 xb, .int .i64 xc, .int .i64 xd, .int .i64 xe, .int .i64 xf, .int .i64 xg, .int .i64 xh, .int .i64 xi], ?_, rfl⟩
      simp only [ogMk, Act.put, List.setIfInBounds_toArray, List.set_cons_zero, List.set_cons_succ, Nat.zero_add, Nat.reduceAdd, List.take_succ_cons, List.take_zero, List.drop_succ_cons, List.drop_zero]
      simp [execOp, Act.eval, go_sem, k0, k1, k2, k3, k4, k5, k6, k7, k8]
    · refine OgStep.pure ?_ ?_
      · rfl
      intro u W hS hp
      refine ⟨.pointer (some ⟨b, 0, none⟩), ?_, rfl⟩
      simp only [ogMk, Act.put, List.setIfInBounds_toArray, List.set_cons_zero, List.set_cons_succ, Nat.zero_add, Nat.reduceAdd, List.take_succ_cons, List.take_zero, List.drop_succ_cons, List.drop_zero]
      simp [execOp, Act.eval, go_sem]
    · refine OgStep.pure ?_ ?_
      · rfl
      intro u W hS hp
      have h1 : u 1 = .pointer (some ⟨b, 0, none⟩) := hp ⟨1, .data⟩ (by simp) rfl
      refine ⟨.pointer (some ⟨b, 0, none⟩), ?_, rfl⟩
      simp only [ogMk, Act.put, List.setIfInBounds_toArray, List.set_cons_zero, List.set_cons_succ, Nat.zero_add, Nat.reduceAdd, List.take_succ_cons, List.take_zero, List.drop_succ_cons, List.drop_zero]
      simp [execOp, Act.eval, go_sem, h1]
    · refine OgStep.pure ?_ ?_
      · rfl
      intro u W hS hp
      have h2 : u 2 = .pointer (some ⟨b, 0, none⟩) := hp ⟨2, .data⟩ (by simp) rfl
      refine ⟨.pointer (some ⟨b, 5, none⟩), ?_, rfl⟩
      simp only [ogMk, Act.put, List.setIfInBounds_toArray, List.set_cons_zero, List.set_cons_succ, Nat.zero_add, Nat.reduceAdd, List.take_succ_cons, List.take_zero, List.drop_succ_cons, List.drop_zero]
      simp [execOp, Act.eval, go_sem, h2]
    · refine OgStep.pure ?_ ?_
      · rfl
      intro u W hS hp
      have h3 : u 3 = .pointer (some ⟨b, 5, none⟩) := hp ⟨3, .data⟩ (by simp) rfl
      have j5 := (S0.out.below hS).cx.key 5 _ rfl
      (try dsimp only at j5)
      refine ⟨.slice A4 pb.length c4, ?_, rfl⟩
      simp only [ogMk, Act.put, List.setIfInBounds_toArray, List.set_cons_zero, List.set_cons_succ, Nat.zero_add, Nat.reduceAdd, List.take_succ_cons, List.take_zero, List.drop_succ_cons, List.drop_zero]
      simp [execOp, Act.eval, go_sem, h3, j5]
    · refine OgStep.pure ?_ ?_
      · rfl
      intro u W hS hp
      refine ⟨.pointer (some ⟨b, 0, none⟩), ?_, rfl⟩
      simp only [ogMk, Act.put, List.setIfInBounds_toArray, List.set_cons_zero, List.set_cons_succ, Nat.zero_add, Nat.reduceAdd, List.take_succ_cons, List.take_zero, List.drop_succ_cons, List.drop_zero]
      simp [execOp, Act.eval, go_sem]
    · refine OgStep.pure ?_ ?_
      · rfl
      intro u W hS hp
      have h5 : u 5 = .pointer (some ⟨b, 0, none⟩) := hp ⟨5, .data⟩ (by simp) rfl
      refine ⟨.pointer (some ⟨b, 0, none⟩), ?_, rfl⟩
      simp only [ogMk, Act.put, List.setIfInBounds_toArray, List.set_cons_zero, List.set_cons_succ, Nat.zero_add, Nat.reduceAdd, List.take_succ_cons, List.take_zero, List.drop_succ_cons, List.drop_zero]
      simp [execOp, Act.eval, go_sem, h5]
    · refine OgStep.pure ?_ ?_
      · rfl
      intro u W hS hp
      have h6 : u 6 = .pointer (some ⟨b, 0, none⟩) := hp ⟨6, .data⟩ (by simp) rfl
      refine ⟨.pointer (some ⟨b, 0, none⟩), ?_, rfl⟩
      simp only [ogMk, Act.put, List.setIfInBounds_toArray, List.set_cons_zero, List.set_cons_succ, Nat.zero_add, Nat.reduceAdd, List.take_succ_cons, List.take_zero, List.drop_succ_cons, List.drop_zero]
      simp [execOp, Act.eval, go_sem, h6]
    · refine OgStep.pure ?_ ?_
      · rfl
      intro u W hS hp
      have h7 : u 7 = .pointer (some ⟨b, 0, none⟩) := hp ⟨7, .data⟩ (by simp) rfl
      have j0 := (S0.out.below hS).cx.key 0 _ rfl
      (try dsimp only at j0)
      refine ⟨.int .i64 n, ?_, rfl⟩
      simp only [ogMk, Act.put, List.setIfInBounds_toArray, List.set_cons_zero, List.set_cons_succ, Nat.zero_add, Nat.reduceAdd, List.take_succ_cons, List.take_zero, List.drop_succ_cons, List.drop_zero]
      simp [execOp, Act.eval, go_sem, h7, j0]
    · refine OgStep.pure ?_ ?_
      · rfl
      intro u W hS hp
      refine ⟨.pointer (some ⟨w.heap.size, 4, none⟩), ?_, rfl⟩
      simp only [ogMk, Act.put, List.setIfInBounds_toArray, List.set_cons_zero, List.set_cons_succ, Nat.zero_add, Nat.reduceAdd, List.take_succ_cons, List.take_zero, List.drop_succ_cons, List.drop_zero]
      simp [execOp, Act.eval, go_sem]
    · refine OgStep.pure ?_ ?_
      · rfl
      intro u W hS hp
      have h9 : u 9 = .pointer (some ⟨w.heap.size, 4, none⟩) := hp ⟨9, .data⟩ (by simp) rfl
      have k4 := (C0.out.below hS).c4
      dsimp only at k4
      refine ⟨.int .i64 xe, ?_, rfl⟩
      simp only [ogMk, Act.put, List.setIfInBounds_toArray, List.set_cons_zero, List.set_cons_succ, Nat.zero_add, Nat.reduceAdd, List.take_succ_cons, List.take_zero, List.drop_succ_cons, List.drop_zero]
      simp [execOp, Act.eval, go_sem, h9, k4]
    · refine OgStep.calls ?_ ?_
      · rfl
      intro u W hS hp
      have h0 : u 0 = .agg #[.int .i64 xa, .int .i64 xb, .int .i64 xc, .int .i64 xd, .int .i64 xe, .int .i64 xf, .int .i64 xg, .int .i64 xh, .int .i64 xi] := hp ⟨0, .data⟩ (by simp) rfl
      have h4 : u 4 = .slice A4 pb.length c4 := hp ⟨4, .data⟩ (by simp) rfl
      have h8 : u 8 = .int .i64 n := hp ⟨8, .data⟩ (by simp) rfl
      have h10 : u 10 = .int .i64 xe := hp ⟨10, .data⟩ (by simp) rfl
      refine ⟨69, #[.agg #[.int .i64 xa, .int .i64 xb, .int .i64 xc, .int .i64 xd, .int .i64 xe, .int .i64 xf, .int .i64 xg, .int .i64 xh, .int .i64 xi], .slice A4 pb.length c4, .int .i64 n, .int .i64 xe], ?_, calls_late (S := (k1, k2)) (HLT.out W (R0.out.below hS)) rfl⟩
      simp only [ogMk, Act.put, List.setIfInBounds_toArray, List.set_cons_zero, List.set_cons_succ, Nat.zero_add, Nat.reduceAdd, List.take_succ_cons, List.take_zero, List.drop_succ_cons, List.drop_zero]
      simp [execOp, Act.eval, go_sem, h0, h4, h8, h10]
    · refine OgStep.pure ?_ ?_
      · rfl
      intro u W hS hp
      obtain ⟨A7, c7, A8, c8, e7, h7, h8⟩ : wF Rp Rp k1 k2 (u 11) W := hp ⟨11, .data⟩ (by simp) rfl
      refine ⟨.tuple #[.slice A7 k1.length c7, .slice A8 k2.length c8], ?_, ⟨A7, c7, A8, c8, rfl, h7, h8⟩⟩
      simp only [ogMk, Act.put, List.setIfInBounds_toArray, List.set_cons_zero, List.set_cons_succ, Nat.zero_add, Nat.reduceAdd, List.take_succ_cons, List.take_zero, List.drop_succ_cons, List.drop_zero]
      simp [execOp, Act.eval, go_sem, e7]
    · refine OgStep.pure ?_ ?_
      · rfl
      intro u W hS hp
      obtain ⟨A7, c7, A8, c8, e7, h7, h8⟩ : wF Rp Rp k1 k2 (u 12) W := hp ⟨12, .data⟩ (by simp) rfl
      refine ⟨.slice A7 k1.length c7, ?_, ⟨A7, c7, rfl, h7⟩⟩
      simp only [ogMk, Act.put, List.setIfInBounds_toArray, List.set_cons_zero, List.set_cons_succ, Nat.zero_add, Nat.reduceAdd, List.take_succ_cons, List.take_zero, List.drop_succ_cons, List.drop_zero]
      simp [execOp, Act.eval, go_sem, e7]
    · refine OgStep.pure ?_ ?_
      · rfl
      intro u W hS hp
      obtain ⟨A7, c7, A8, c8, e7, h7, h8⟩ : wF Rp Rp k1 k2 (u 12) W := hp ⟨12, .data⟩ (by simp) rfl
      refine ⟨.slice A8 k2.length c8, ?_, ⟨A8, c8, rfl, h8⟩⟩
      simp only [ogMk, Act.put, List.setIfInBounds_toArray, List.set_cons_zero, List.set_cons_succ, Nat.zero_add, Nat.reduceAdd, List.take_succ_cons, List.take_zero, List.drop_succ_cons, List.drop_zero]
      simp [execOp, Act.eval, go_sem, e7]
    · refine OgStep.pure ?_ ?_
      · rfl
      intro u W hS hp
      obtain ⟨A7, c7, e7, h7⟩ : rF Rp k1 (u 13) W := hp ⟨13, .data⟩ (by simp) rfl
      refine ⟨.slice A7 k1.length c7, ?_, ⟨A7, c7, rfl, h7⟩⟩
      simp only [ogMk, Act.put, List.setIfInBounds_toArray, List.set_cons_zero, List.set_cons_succ, Nat.zero_add, Nat.reduceAdd, List.take_succ_cons, List.take_zero, List.drop_succ_cons, List.drop_zero]
      simp [execOp, Act.eval, go_sem, e7]
    · refine OgStep.pure ?_ ?_
      · rfl
      intro u W hS hp
      obtain ⟨A7, c7, e7, h7⟩ : rG Rp k2 (u 14) W := hp ⟨14, .data⟩ (by simp) rfl
      refine ⟨.slice A7 k2.length c7, ?_, ⟨A7, c7, rfl, h7⟩⟩
      simp only [ogMk, Act.put, List.setIfInBounds_toArray, List.set_cons_zero, List.set_cons_succ, Nat.zero_add, Nat.reduceAdd, List.take_succ_cons, List.take_zero, List.drop_succ_cons, List.drop_zero]
      simp [execOp, Act.eval, go_sem, e7]
  · intro u W hS hF
    have e0 : u 0 = .agg #[.int .i64 xa, .int .i64 xb, .int .i64 xc, .int .i64 xd, .int .i64 xe, .int .i64 xf, .int .i64 xg, .int .i64 xh, .int .i64 xi] := hF 0 (by decide)
    have e1 : u 1 = .pointer (some ⟨b, 0, none⟩) := hF 1 (by decide)
    have e2 : u 2 = .pointer (some ⟨b, 0, none⟩) := hF 2 (by decide)
    have e3 : u 3 = .pointer (some ⟨b, 5, none⟩) := hF 3 (by decide)
    have e4 : u 4 = .slice A4 pb.length c4 := hF 4 (by decide)
    have e5 : u 5 = .pointer (some ⟨b, 0, none⟩) := hF 5 (by decide)
    have e6 : u 6 = .pointer (some ⟨b, 0, none⟩) := hF 6 (by decide)
    have e7 : u 7 = .pointer (some ⟨b, 0, none⟩) := hF 7 (by decide)
    have e8 : u 8 = .int .i64 n := hF 8 (by decide)
    have e9 : u 9 = .pointer (some ⟨w.heap.size, 4, none⟩) := hF 9 (by decide)
    have e10 : u 10 = .int .i64 xe := hF 10 (by decide)
    obtain ⟨A6, c6, e15, hc6, hR6⟩ : rF Rp k1 (u 15) W := hF 15 (by decide)
    obtain ⟨A7, c7, e16, hc7, hR7⟩ : rG Rp k2 (u 16) W := hF 16 (by decide)
    simp only [ogMk, Act.put, List.setIfInBounds_toArray, List.set_cons_zero, List.set_cons_succ, Nat.zero_add, Nat.reduceAdd, List.take_succ_cons, List.take_zero, List.drop_succ_cons, List.drop_zero]
    rw [e0, e1, e2, e3, e4, e5, e6, e7, e8, e9, e10, e15, e16]
    clear e0 e1 e2 e3 e4 e5 e6 e7 e8 e9 e10 e15 e16 hF
    have R1 := Lib.hid (R0.out.below hS)
    have S1 := Lib.hid (S0.out.below hS)
    have C1 := Lib.hid (C0.out.below hS)
    have O1 := Lib.hid (O0.out.trans (Ob.of hS S0.out.lt))
    clear hS HLT
    go_wp2_with (refine at_fieldSt 32 _ _ b [.int .i64 n, .int .i64 q, .slice A1 hs.length c1, .slice A2 sw.length c2, .slice A3 kn.length c3] (.slice A4 pb.length c4) (.slice A6 k1.length c6) [.slice A5 cs.length c5] S1.out sizeRp rfl (ns_sl _ _ _) rfl rfl rfl rfl rfl ?_)
    intro w3 S3 hb3 hk3
    have O3 := Lib.hid (O1.out.trans (Ob.put hb3.out hk3.out))
    have R3 := Lib.hid (show Lie w3 ⟨n, q, hs, sw, kn, k1, cs⟩ ⟨A1, c1, A2, c2, A3, c3, A6, c6, A5, c5⟩ from { R1.out.apart S1.out.bs hk3.out with p := rw_apart mk_P hR6 S1.out.bs hk3.out, pc := hc6 })
    have RG := Lib.hid (rw_apart mk_P hR7 S1.out.bs hk3.out)
    have C3 := Lib.hid (cm_ob C1.out (Ob.put hb3.out hk3.out) (by have := LT.out; omega))
    have L3 := Lib.hid S3.out.lt
    have hln := RG.out.1
    obtain ⟨M, hM⟩ : ∃ M, k2.length = M := ⟨_, rfl⟩
    have HM := Lib.hid hM
    rw [hM] at hln hl2' hrm ⊢
    clear hM hb3 hk3 O1 S1 R1 C1 hR6 hR7 S0 R0
    go_wp2_with fail
    go_loopw [7, 39] (fun v i wr => ∃ k : Nat, i = .int .i64 k ∧ k ≤ M ∧ Hid ((Ob b w3 wr ∧ Below w3.heap.size w3 wr) ∧ wr.ownsRow w3.heap.size 103 11 v k (ePk.cs ((k2.map Pb.pkO).take k)))) (fun _ i _ => M - (intOf i).toNat)
    case atStart => exact ⟨0, rfl, by omega, Lib.hid ⟨⟨Ob.refl _ _, Below.refl _ _⟩, World.ownsRow_nil _ _ _ _⟩⟩
    case round =>
      obtain ⟨k, rfl, hk, HW⟩ := hrel
      by_cases hkM : k < M
      · obtain ⟨z, hz⟩ : ∃ z, k2[k]? = some z := ⟨_, List.getElem?_eq_getElem (by rw [HM.out]; exact hkM)⟩
        obtain ⟨y, rfl⟩ := rw_some RG.out (by rw [HM.out]; omega)
        have hat := (rw_ob mk_P RG.out S3.out.bs HW.out.1.1).at hz
        have HF := Lib.hid (show (k2.map Pb.pkO).take (k + 1) = (k2.map Pb.pkO).take k ++ [Pb.pkO z] by rw [List.take_add_one, List.getElem?_map, hz]; rfl)
        have BZ := Lib.hid (show Below wr.heap.size wr (wr.alloc (Pb.Prx z)) from (Below.refl _ _).alloc (Nat.le_refl _) _)
        have QZ := Lib.hid (Pb.qb_box wr z)
        have HPK := Pb.packet_any z
        obtain ⟨pk, hpk⟩ : ∃ pk, Pb.pkO z = pk := ⟨_, rfl⟩
        rw [hpk] at HPK HF
        obtain ⟨pa, pf, pt, p0, p1, p2, p3, p4, p5, pi, ps⟩ := pk
        simp only [Pb.pkv, Pb.prv] at HPK
        replace HPK := Lib.hid HPK
        clear hpk hz
        have hkl : k ≤ 1000 := by omega
        unfold Pb.Prx at *
        go_wp2_with (first | (refine Pb.at_load37 (.tmp 41) rfl rfl (y.add (k * 5)) z rfl hat ?_) | (refine Pb.at_load37 (.tmp 9) rfl rfl ⟨wr.heap.size, 0, none⟩ z rfl QZ.out.at ?_))
        refine (HPK.out _).mono ?_
        rintro e w5 ⟨rfl, hb⟩
        have B5 := Lib.hid (BZ.out.trans (hb.mono BZ.out.size))
        have O5 := Lib.hid (HW.out.1.1.trans (Ob.of B5.out (Nat.lt_of_lt_of_le L3.out HW.out.1.1.size)))
        have W5 := Lib.hid (own_keep HW.out.2 B5.out)
        clear hb hat
        have RX := Lib.hid (pk_box w5 ⟨pa, pf, pt, p0, p1, p2, p3, p4, p5, pi, ps⟩)
        have BX := (Below.refl w5.heap.size w5).alloc (Nat.le_refl _) (Pb.Pkx ⟨pa, pf, pt, p0, p1, p2, p3, p4, p5, pi, ps⟩)
        have O6 := Lib.hid (O5.out.trans (Ob.of BX (Nat.lt_of_lt_of_le L3.out O5.out.size)))
        have W6 := Lib.hid (own_keep W5.out BX)
        have hb6 := O6.out.size
        clear BX
        unfold Pb.Pkx at *
        go_wp2_with (at_builtin; refine wpList_append_rw2 tK _ rfl (.tmp 43) (.tmp 46) rfl w3.heap.size _ k _ (by simp [Act.eval, Act.put]) W6.out _ 1 1 [⟨pa, pf, pt, p0, p1, p2, p3, p4, p5, pi, ps⟩] (by simp [Act.eval, Act.put]) rfl RX.out (by omega) hb6 ?_)
        intro v7 w7 ho7 hg7 hn7
        have O7 := Lib.hid (O6.out.grown hg7 (fun g hg => (W6.out.lt g hg).1) L3.out)
        have B7 := Lib.hid (show Below w3.heap.size w3 w7 from (HW.out.1.2.trans (B5.out.mono HW.out.1.1.size)).trans ((((Below.refl w5.heap.size w5).alloc (Nat.le_refl _) _).mono (Nat.le_trans HW.out.1.1.size B5.out.size)).grown hg7 hb6 (fun g hg => (W6.out.lt g hg).1)))
        have W7 := Lib.hid ho7
        clear ho7 hg7 hn7 hb6
        go_wp2_with fail
        go_roundw
        case rel => exact ⟨k + 1, by go_num, by omega, Lib.hid ⟨⟨O7.out, B7.out⟩, by rw [HF.out]; exact W7.out⟩⟩
        case measure => simp [intOf]; omega
      · obtain rfl : k = M := by omega
        have hW := HW.out
        rw [List.take_of_length_le (by rw [List.length_map, HM.out]; exact Nat.le_refl _)] at hW
        have O5 := Lib.hid hW.1.1
        have W5 := Lib.hid hW.2
        have hW0 := Lib.hid hW.1.2
        clear hW HW
        have S5 := Lib.hid (S3.out.keep hW0.out L3.out)
        have C5 := Lib.hid (cm_ob C3.out O5.out (by have := LT.out; omega))
        have R5 := Lib.hid (show Lie wr ⟨n, q, hs, sw, kn, k1, cs⟩ ⟨A1, c1, A2, c2, A3, c3, A6, c6, A5, c5⟩ from R3.out.ob S3.out.bs O5.out)
        have k4 := C5.out.c4
        dsimp only at k4
        obtain ⟨B5, hB5⟩ : ∃ B5, wr.heap.size = B5 := ⟨_, rfl⟩
        have HB5 := Lib.hid hB5
        clear hB5
        go_wp2_with fail
        refine wp_region_below [fx (.agg #[.int .i64 xa, .int .i64 xb, .int .i64 xc, .int .i64 xd, .int .i64 xe, .int .i64 xf, .int .i64 xg, .int .i64 xh, .int .i64 xi]), fx (.pointer (some ⟨b, 0, none⟩)), fx (.pointer (some ⟨b, 0, none⟩)), fx (.pointer (some ⟨b, 3, none⟩)), fx (.slice A2 sw.length c2), fx (.pointer (some ⟨b, 0, none⟩)), fx (.pointer (some ⟨b, 0, none⟩)), fx (.pointer (some ⟨b, 0, none⟩)), fx (.int .i64 n), fx (.int .i64 room), wF (Rsf B5) (Raf B5) s1 a1, wF (Rsf B5) (Raf B5) s1 a1, rF (Rsf B5) s1, rG (Raf B5) a1, rF (Rsf B5) s1, rG (Raf B5) a1]
          (by kernel_rfl) (by kernel_rfl) (by kernel_rfl) ?_ ?_ ?_
        · simp only [List.mem_cons, List.not_mem_nil, or_false]
          rintro φ (rfl | rfl | rfl | rfl | rfl | rfl | rfl | rfl | rfl | rfl | rfl | rfl | rfl | rfl | rfl | rfl)
          all_goals first | exact stable_fx _ | exact stable_rF hld_h _ | exact stable_rF hld_s _ | exact stable_rF hld_k _ | exact stable_rF hld_p _ | exact stable_rF hld_c _ | exact stable_tF hld_h _ _ | exact stable_tF hld_s _ _ | exact stable_tF hld_k _ _ | exact stable_tF hld_p _ _ | exact stable_tF hld_c _ _ | exact stable_tF (hld_pf _) _ _ | exact stable_rF (hld_pf _) _ | exact stable_rF (hld_sf _) _ | exact stable_rG (hld_af _) _ | exact stable_rG hld_p _ | exact stable_wF hld_p hld_p _ _ | exact stable_wF (hld_sf _) (hld_af _) _ _ | exact stable_nb _
        · refine OgSteps.cons ?_ (OgSteps.cons ?_ (OgSteps.cons ?_ (OgSteps.cons ?_ (OgSteps.cons ?_ (OgSteps.cons ?_ (OgSteps.cons ?_ (OgSteps.cons ?_ (OgSteps.cons ?_ (OgSteps.cons ?_ (OgSteps.cons ?_ (OgSteps.cons ?_ (OgSteps.cons ?_ (OgSteps.cons ?_ (OgSteps.cons ?_ (OgSteps.cons ?_ (OgSteps.nil))))))))))))))))
          · refine OgStep.pure ?_ ?_
            · rfl
            intro u W hS hp
            have C := C5.out.below hS
            have k0 := C.c0
            have k1 := C.c1
            have k2 := C.c2
            have k3 := C.c3
            have k4 := C.c4
            have k5 := C.c5
            have k6 := C.c6
            have k7 := C.c7
            have k8 := C.c8
            dsimp only at k0 k1 k2 k3 k4 k5 k6 k7 k8
            refine ⟨.agg #[.int .i64 xa, .int .i64 xb, .int .i64 xc, .int .i64 xd, .int .i64 xe, .int .i64 xf, .int .i64 xg, .int .i64 xh, .int .i64 xi], ?_, rfl⟩
            simp only [ogMk, Act.put, List.setIfInBounds_toArray, List.set_cons_zero, List.set_cons_succ, Nat.zero_add, Nat.reduceAdd, List.take_succ_cons, List.take_zero, List.drop_succ_cons, List.drop_zero]
            simp [execOp, Act.eval, go_sem, k0, k1, k2, k3, k4, k5, k6, k7, k8]
          · refine OgStep.pure ?_ ?_
            · rfl
            intro u W hS hp
            refine ⟨.pointer (some ⟨b, 0, none⟩), ?_, rfl⟩
            simp only [ogMk, Act.put, List.setIfInBounds_toArray, List.set_cons_zero, List.set_cons_succ, Nat.zero_add, Nat.reduceAdd, List.take_succ_cons, List.take_zero, List.drop_succ_cons, List.drop_zero]
            simp [execOp, Act.eval, go_sem]
          · refine OgStep.pure ?_ ?_
            · rfl
            intro u W hS hp
            have h1 : u 1 = .pointer (some ⟨b, 0, none⟩) := hp ⟨1, .data⟩ (by simp) rfl
            refine ⟨.pointer (some ⟨b, 0, none⟩), ?_, rfl⟩
            simp only [ogMk, Act.put, List.setIfInBounds_toArray, List.set_cons_zero, List.set_cons_succ, Nat.zero_add, Nat.reduceAdd, List.take_succ_cons, List.take_zero, List.drop_succ_cons, List.drop_zero]
            simp [execOp, Act.eval, go_sem, h1]
          · refine OgStep.pure ?_ ?_
            · rfl
            intro u W hS hp
            have h2 : u 2 = .pointer (some ⟨b, 0, none⟩) := hp ⟨2, .data⟩ (by simp) rfl
            refine ⟨.pointer (some ⟨b, 3, none⟩), ?_, rfl⟩
            simp only [ogMk, Act.put, List.setIfInBounds_toArray, List.set_cons_zero, List.set_cons_succ, Nat.zero_add, Nat.reduceAdd, List.take_succ_cons, List.take_zero, List.drop_succ_cons, List.drop_zero]
            simp [execOp, Act.eval, go_sem, h2]
          · refine OgStep.pure ?_ ?_
            · rfl
            intro u W hS hp
            have h3 : u 3 = .pointer (some ⟨b, 3, none⟩) := hp ⟨3, .data⟩ (by simp) rfl
            have j3 := (S5.out.below hS).cx.key 3 _ rfl
            (try dsimp only at j3)
            refine ⟨.slice A2 sw.length c2, ?_, rfl⟩
            simp only [ogMk, Act.put, List.setIfInBounds_toArray, List.set_cons_zero, List.set_cons_succ, Nat.zero_add, Nat.reduceAdd, List.take_succ_cons, List.take_zero, List.drop_succ_cons, List.drop_zero]
            simp [execOp, Act.eval, go_sem, h3, j3]
          · refine OgStep.pure ?_ ?_
            · rfl
            intro u W hS hp
            refine ⟨.pointer (some ⟨b, 0, none⟩), ?_, rfl⟩
            simp only [ogMk, Act.put, List.setIfInBounds_toArray, List.set_cons_zero, List.set_cons_succ, Nat.zero_add, Nat.reduceAdd, List.take_succ_cons, List.take_zero, List.drop_succ_cons, List.drop_zero]
            simp [execOp, Act.eval, go_sem]
          · refine OgStep.pure ?_ ?_
            · rfl
            intro u W hS hp
            have h5 : u 5 = .pointer (some ⟨b, 0, none⟩) := hp ⟨5, .data⟩ (by simp) rfl
            refine ⟨.pointer (some ⟨b, 0, none⟩), ?_, rfl⟩
            simp only [ogMk, Act.put, List.setIfInBounds_toArray, List.set_cons_zero, List.set_cons_succ, Nat.zero_add, Nat.reduceAdd, List.take_succ_cons, List.take_zero, List.drop_succ_cons, List.drop_zero]
            simp [execOp, Act.eval, go_sem, h5]
          · refine OgStep.pure ?_ ?_
            · rfl
            intro u W hS hp
            have h6 : u 6 = .pointer (some ⟨b, 0, none⟩) := hp ⟨6, .data⟩ (by simp) rfl
            refine ⟨.pointer (some ⟨b, 0, none⟩), ?_, rfl⟩
            simp only [ogMk, Act.put, List.setIfInBounds_toArray, List.set_cons_zero, List.set_cons_succ, Nat.zero_add, Nat.reduceAdd, List.take_succ_cons, List.take_zero, List.drop_succ_cons, List.drop_zero]
            simp [execOp, Act.eval, go_sem, h6]
          · refine OgStep.pure ?_ ?_
            · rfl
            intro u W hS hp
            have h7 : u 7 = .pointer (some ⟨b, 0, none⟩) := hp ⟨7, .data⟩ (by simp) rfl
            have j0 := (S5.out.below hS).cx.key 0 _ rfl
            (try dsimp only at j0)
            refine ⟨.int .i64 n, ?_, rfl⟩
            simp only [ogMk, Act.put, List.setIfInBounds_toArray, List.set_cons_zero, List.set_cons_succ, Nat.zero_add, Nat.reduceAdd, List.take_succ_cons, List.take_zero, List.drop_succ_cons, List.drop_zero]
            simp [execOp, Act.eval, go_sem, h7, j0]
          · refine OgStep.pure ?_ ?_
            · rfl
            intro u W hS hp
            refine ⟨.int .i64 room, ?_, rfl⟩
            simp only [ogMk, Act.put, List.setIfInBounds_toArray, List.set_cons_zero, List.set_cons_succ, Nat.zero_add, Nat.reduceAdd, List.take_succ_cons, List.take_zero, List.drop_succ_cons, List.drop_zero]
            simp [execOp, Act.eval, go_sem]
          · refine OgStep.calls ?_ ?_
            · rfl
            intro u W hS hp
            have h0 : u 0 = .agg #[.int .i64 xa, .int .i64 xb, .int .i64 xc, .int .i64 xd, .int .i64 xe, .int .i64 xf, .int .i64 xg, .int .i64 xh, .int .i64 xi] := hp ⟨0, .data⟩ (by simp) rfl
            have h4 : u 4 = .slice A2 sw.length c2 := hp ⟨4, .data⟩ (by simp) rfl
            have h8 : u 8 = .int .i64 n := hp ⟨8, .data⟩ (by simp) rfl
            have h9 : u 9 = .int .i64 room := hp ⟨9, .data⟩ (by simp) rfl
            refine ⟨70, #[.agg #[.int .i64 xa, .int .i64 xb, .int .i64 xc, .int .i64 xd, .int .i64 xe, .int .i64 xf, .int .i64 xg, .int .i64 xh, .int .i64 xi], .slice A2 sw.length c2, .int .i64 n, .int .i64 room], ?_, calls_plan (S := (s1, a1)) (HPL.out W (R5.out.below hS).s) (by have := hS.size; have := HB5.out; omega) rfl⟩
            simp only [ogMk, Act.put, List.setIfInBounds_toArray, List.set_cons_zero, List.set_cons_succ, Nat.zero_add, Nat.reduceAdd, List.take_succ_cons, List.take_zero, List.drop_succ_cons, List.drop_zero]
            simp [execOp, Act.eval, go_sem, h0, h4, h8, h9]
          · refine OgStep.pure ?_ ?_
            · rfl
            intro u W hS hp
            obtain ⟨A7, c7, A8, c8, e7, h7, h8⟩ : wF (Rsf B5) (Raf B5) s1 a1 (u 10) W := hp ⟨10, .data⟩ (by simp) rfl
            refine ⟨.tuple #[.slice A7 s1.length c7, .slice A8 a1.length c8], ?_, ⟨A7, c7, A8, c8, rfl, h7, h8⟩⟩
            simp only [ogMk, Act.put, List.setIfInBounds_toArray, List.set_cons_zero, List.set_cons_succ, Nat.zero_add, Nat.reduceAdd, List.take_succ_cons, List.take_zero, List.drop_succ_cons, List.drop_zero]
            simp [execOp, Act.eval, go_sem, e7]
          · refine OgStep.pure ?_ ?_
            · rfl
            intro u W hS hp
            obtain ⟨A7, c7, A8, c8, e7, h7, h8⟩ : wF (Rsf B5) (Raf B5) s1 a1 (u 11) W := hp ⟨11, .data⟩ (by simp) rfl
            refine ⟨.slice A7 s1.length c7, ?_, ⟨A7, c7, rfl, h7⟩⟩
            simp only [ogMk, Act.put, List.setIfInBounds_toArray, List.set_cons_zero, List.set_cons_succ, Nat.zero_add, Nat.reduceAdd, List.take_succ_cons, List.take_zero, List.drop_succ_cons, List.drop_zero]
            simp [execOp, Act.eval, go_sem, e7]
          · refine OgStep.pure ?_ ?_
            · rfl
            intro u W hS hp
            obtain ⟨A7, c7, A8, c8, e7, h7, h8⟩ : wF (Rsf B5) (Raf B5) s1 a1 (u 11) W := hp ⟨11, .data⟩ (by simp) rfl
            refine ⟨.slice A8 a1.length c8, ?_, ⟨A8, c8, rfl, h8⟩⟩
            simp only [ogMk, Act.put, List.setIfInBounds_toArray, List.set_cons_zero, List.set_cons_succ, Nat.zero_add, Nat.reduceAdd, List.take_succ_cons, List.take_zero, List.drop_succ_cons, List.drop_zero]
            simp [execOp, Act.eval, go_sem, e7]
          · refine OgStep.pure ?_ ?_
            · rfl
            intro u W hS hp
            obtain ⟨A7, c7, e7, h7⟩ : rF (Rsf B5) s1 (u 12) W := hp ⟨12, .data⟩ (by simp) rfl
            refine ⟨.slice A7 s1.length c7, ?_, ⟨A7, c7, rfl, h7⟩⟩
            simp only [ogMk, Act.put, List.setIfInBounds_toArray, List.set_cons_zero, List.set_cons_succ, Nat.zero_add, Nat.reduceAdd, List.take_succ_cons, List.take_zero, List.drop_succ_cons, List.drop_zero]
            simp [execOp, Act.eval, go_sem, e7]
          · refine OgStep.pure ?_ ?_
            · rfl
            intro u W hS hp
            obtain ⟨A7, c7, e7, h7⟩ : rG (Raf B5) a1 (u 13) W := hp ⟨13, .data⟩ (by simp) rfl
            refine ⟨.slice A7 a1.length c7, ?_, ⟨A7, c7, rfl, h7⟩⟩
            simp only [ogMk, Act.put, List.setIfInBounds_toArray, List.set_cons_zero, List.set_cons_succ, Nat.zero_add, Nat.reduceAdd, List.take_succ_cons, List.take_zero, List.drop_succ_cons, List.drop_zero]
            simp [execOp, Act.eval, go_sem, e7]
        · intro u W hS hF
          have e0 : u 0 = .agg #[.int .i64 xa, .int .i64 xb, .int .i64 xc, .int .i64 xd, .int .i64 xe, .int .i64 xf, .int .i64 xg, .int .i64 xh, .int .i64 xi] := hF 0 (by decide)
          have e1 : u 1 = .pointer (some ⟨b, 0, none⟩) := hF 1 (by decide)
          have e2 : u 2 = .pointer (some ⟨b, 0, none⟩) := hF 2 (by decide)
          have e3 : u 3 = .pointer (some ⟨b, 3, none⟩) := hF 3 (by decide)
          have e4 : u 4 = .slice A2 sw.length c2 := hF 4 (by decide)
          have e5 : u 5 = .pointer (some ⟨b, 0, none⟩) := hF 5 (by decide)
          have e6 : u 6 = .pointer (some ⟨b, 0, none⟩) := hF 6 (by decide)
          have e7 : u 7 = .pointer (some ⟨b, 0, none⟩) := hF 7 (by decide)
          have e8 : u 8 = .int .i64 n := hF 8 (by decide)
          have e9 : u 9 = .int .i64 room := hF 9 (by decide)
          obtain ⟨A8, c8, e14, hc8, hR8⟩ : rF (Rsf B5) s1 (u 14) W := hF 14 (by decide)
          obtain ⟨A9, c9, e15, hc9, hR9⟩ : rG (Raf B5) a1 (u 15) W := hF 15 (by decide)
          simp only [ogMk, Act.put, List.setIfInBounds_toArray, List.set_cons_zero, List.set_cons_succ, Nat.zero_add, Nat.reduceAdd, List.take_succ_cons, List.take_zero, List.drop_succ_cons, List.drop_zero]
          rw [e0, e1, e2, e3, e4, e5, e6, e7, e8, e9, e14, e15]
          clear e0 e1 e2 e3 e4 e5 e6 e7 e8 e9 e14 e15 hF
          have O6 := Lib.hid (O5.out.trans (Ob.of hS S5.out.lt))
          have S6 := Lib.hid (S5.out.below hS)
          have R6 := Lib.hid (R5.out.below hS)
          have W6 := Lib.hid (own_keep W5.out hS)
          have C6 := Lib.hid (C5.out.below hS)
          have hlo := fun g hg => (W5.out.lt g hg)
          have VA8 := Lib.hid (show Av A8 s1.length u7 from fun y g hy _ hg => by have := hR8.2 y hy; have := (hlo g hg).2; have := HB5.out; omega)
          have VA9 := Lib.hid (show Av A9 a1.length u7 from fun y g hy _ hg => by have := hR9.2 y hy; have := (hlo g hg).2; have := HB5.out; omega)
          have VA6 := Lib.hid (show Av A6 k1.length u7 from fun y g hy h0 hg => by have := rw_lt' R3.out.p y hy h0; have := (hlo g hg).1; omega)
          clear hlo
          go_wp2_with (refine at_fieldSt 30 _ _ b [.int .i64 n, .int .i64 q, .slice A1 hs.length c1] (.slice A2 sw.length c2) (.slice A8 s1.length c8) [.slice A3 kn.length c3, .slice A6 k1.length c6, .slice A5 cs.length c5] S6.out sizeRs rfl (ns_sl _ _ _) rfl rfl rfl rfl rfl ?_)
          intro w7 S7 hb7 hk7
          have P7 := Ob.put hb7.out hk7.out
          have O7 := Lib.hid (O6.out.trans P7)
          have LP0 := Lib.hid (show Lp b w3 ⟨n, q, hs, s1, kn, k1, cs⟩ ⟨A1, c1, A8, c8, A3, c3, A6, c6, A5, c5⟩ A8 A9 s1 a1 (⟨n, q, hs, s1, kn, k1, cs⟩, k2.map Pb.pkO) u7 w7 from ⟨O7.out, rfl, ⟨A6, c6, S7.out, R3.out.pc, rw_ob mk_P R3.out.p S3.out.bs O7.out, VA6.out⟩, (by rw [show ((⟨n, q, hs, s1, kn, k1, cs⟩, k2.map Pb.pkO) : Stt × List Pb.Pk).2.length = k from (List.length_map _).trans HM.out]; exact own_ob W6.out P7 L3.out), rw_apart mk_W hR8.1 S6.out.bs hk7.out, VA8.out, rw_apart mk_a hR9.1 S6.out.bs hk7.out, VA9.out, HI7.out⟩)
          have hlnN := hR9.1.1
          have R3L := R3
          have R8c := Lib.hid hc8
          obtain ⟨N, hN⟩ : ∃ N, a1.length = N := ⟨_, rfl⟩
          have HN := Lib.hid hN
          rw [hN] at hlnN ⊢
          clear hN hb7 hk7 P7 O6 S6 R6 W6 VA8 VA9 VA6 O5 S5 R5 W5 C5 HB5 hR8 hR9 HPL C6 O7 S7 R3 RG
          go_wp2_with fail
          go_loopw [7, 79] (fun v i wr => ∃ j : Nat, i = .int .i64 j ∧ j ≤ N ∧ Hid (Lp b w3 ⟨n, q, hs, s1, kn, k1, cs⟩ ⟨A1, c1, A8, c8, A3, c3, A6, c6, A5, c5⟩ A8 A9 s1 a1 ((a1.take j).foldl t5q (⟨n, q, hs, s1, kn, k1, cs⟩, k2.map Pb.pkO)) v wr)) (fun _ i _ => N - (intOf i).toNat)
          case atStart => exact ⟨0, rfl, by omega, LP0⟩
          case round =>
            obtain ⟨j, rfl, hj, HW⟩ := hrel
            clear LP0
            by_cases hjN : j < N
            · obtain ⟨z, hz⟩ : ∃ z, a1[j]? = some z := ⟨_, List.getElem?_eq_getElem (by rw [HN.out]; exact hjN)⟩
              obtain ⟨y, rfl⟩ := rw_some HW.out.ra (by rw [HN.out]; omega)
              have HF := Lib.hid (fold_take t5q (⟨n, q, hs, s1, kn, k1, cs⟩, k2.map Pb.pkO) hz)
              have HZ := Lib.hid (HPI.out z (List.mem_of_getElem? hz))
              have hpl : ((a1.take j).foldl t5q (⟨n, q, hs, s1, kn, k1, cs⟩, k2.map Pb.pkO)).2.length ≤ 300 := by
                have h1 := fold5_len (a1.take j) (⟨n, q, hs, s1, kn, k1, cs⟩, k2.map Pb.pkO)
                have h2 := HM.out
                have h3 := HN.out
                have h4 := HA1.out
                simp only [List.length_map, List.length_take] at h1
                omega
              generalize (a1.take j).foldl t5q (⟨n, q, hs, s1, kn, k1, cs⟩, k2.map Pb.pkO) = S at *
              obtain ⟨S1, ps0⟩ := S
              obtain ⟨Q, hQ⟩ : ∃ Q, S1.seq = Q := ⟨_, rfl⟩
              obtain ⟨PB, hPB⟩ : ∃ PB, S1.pb = PB := ⟨_, rfl⟩
              have he := HW.out.eq
              dsimp only at he
              rw [hQ, hPB] at he
              subst he
              clear hQ hPB
              obtain ⟨hob, -, ⟨Ap, cp, hsb, hcp, hrp, hav⟩, hown, hrs, hvs, hra, hva, hin⟩ := HW.out
              dsimp only at hsb hcp hrp hav hown hin
              have hat : wr.cell? (y.add j) = some (.int .u32 z) := by
                obtain ⟨y2, hy2, hc2⟩ := hra.2 j z hz
                obtain rfl := Option.some.inj hy2
                have := hc2 0 (.int .u32 z) rfl
                simpa [Sw.eA] using this
              have hQ0 := hin.q0
              have hQ1 := hin.q1
              dsimp only at hQ0 hQ1 hpl
              have hp16 := hin.p16
              dsimp only at hp16
              obtain ⟨Q1, hQe⟩ : ∃ Q1, (Q + 1) % 65536 = Q1 := ⟨_, rfl⟩
              have hQt : (Q + 1).tmod 65536 = Q1 := by rw [Int.tmod_eq_emod_of_nonneg (by omega)]; exact hQe
              have hof : Pb.ofP z Q1 n = ⟨z, z % 65536, (Q + 1) % 65536, n, 0⟩ := by
                unfold Pb.ofP
                rw [cl_in hn0 hn1, hQe, show Q1 % 65536 = Q1 by omega]
              have HOF := fun W => Pb.of_any z Q1 n W
              have HT := show t5q (⟨n, Q, hs, s1, kn, PB, cs⟩, ps0) z = _ from by unfold t5q; rfl
              dsimp only at HT
              rw [← hof, hQe] at HT
              obtain ⟨p, hp⟩ : ∃ p, Pb.ofP z Q1 n = p := ⟨_, rfl⟩
              rw [hp] at HT HOF
              have HPU := fun W (hW : Rw Pb.eP W Ap PB) => Pb.put_any p Ap PB cp W hW hcp (by omega)
              obtain ⟨ys, hys⟩ : ∃ ys, Pb.putR PB p = ys := ⟨_, rfl⟩
              obtain ⟨er, her⟩ : ∃ er, Pb.putC PB p = er := ⟨_, rfl⟩
              rw [hys, her] at HPU HT
              have HIN := Lib.hid (In.t5q (s := (⟨n, Q, hs, s1, kn, PB, cs⟩, ps0)) hin HZ.out.1 HZ.out.2)
              have HKE := Lib.hid (t5q_keep (⟨n, Q, hs, s1, kn, PB, cs⟩, ps0) z)
              have HPK := Pb.packet_any p
              obtain ⟨pk, hpk⟩ : ∃ pk, Pb.pkO p = pk := ⟨_, rfl⟩
              rw [hpk] at HPK HT
              obtain ⟨pa, pf, pt, p0, p1, p2, p3, p4, p5, pi, ps⟩ := pk
              simp only [Pb.pkv, Pb.prv] at HPK HPU HOF
              replace HPK := Lib.hid HPK
              replace HPU := Lib.hid HPU
              replace HOF := Lib.hid HOF
              replace HT := Lib.hid HT
              have HSB := Lib.hid hsb
              have HRP := Lib.hid hrp
              have HRS := Lib.hid hrs
              have HRA := Lib.hid hra
              have HOW := Lib.hid hown
              have HOB := Lib.hid hob
              have HAV := Lib.hid (show Av Ap PB.length u7 ∧ Av A8 s1.length u7 ∧ Av (some y) a1.length u7 from ⟨hav, hvs, hva⟩)
              have HCP := Lib.hid hcp
              have k1 := hsb.cx.key 1 _ rfl
              dsimp only at k1
              clear hpk hp hys her hQe hof hsb hrp hrs hra hown hob hav hvs hva hin hz HW hcp
              go_wp2_with (refine at_fieldSt 3 _ _ b [.int .i64 n] (.int .i64 Q) (.int .i64 Q1) [.slice A1 hs.length c1, .slice A8 s1.length c8, .slice A3 kn.length c3, .slice Ap PB.length cp, .slice A5 cs.length c5] HSB.out sizeInt rfl (ns_int _) rfl rfl rfl rfl rfl ?_)
              intro w8 S8 hb8 hk8
              have P8 := Ob.put hb8.out hk8.out
              have RP8 := Lib.hid (rw_apart mk_P HRP.out HSB.out.bs hk8.out)
              have RS8 := Lib.hid (rw_apart mk_W HRS.out HSB.out.bs hk8.out)
              have RA8 := Lib.hid (rw_apart mk_a HRA.out HSB.out.bs hk8.out)
              have OW8 := Lib.hid (own_ob HOW.out P8 L3.out)
              have OB8 := Lib.hid (HOB.out.trans P8)
              clear hb8 hk8 P8 HRP HRS HRA HOW HOB HSB hat k1
              go_wp2_with fail
              refine wp_region_below_tail 11 [fx (.int .u32 z), fx (.pointer (some ⟨b, 0, none⟩)), fx (.pointer (some ⟨b, 0, none⟩)), fx (.pointer (some ⟨b, 1, none⟩)), fx (.int .i64 Q1), fx (.pointer (some ⟨b, 0, none⟩)), fx (.pointer (some ⟨b, 0, none⟩)), fx (.pointer (some ⟨b, 0, none⟩)), fx (.int .i64 n), fx (.agg #[.int .u32 p.a, .int .i64 p.i, .int .i64 p.s, .int .i64 p.t, .int .i64 p.n]), Nb w8.heap.size]
                (by kernel_rfl) (by simp) (by kernel_rfl) (by kernel_rfl) (by kernel_rfl) ?_ ?_ ?_
              · simp only [List.mem_cons, List.not_mem_nil, or_false]
                rintro φ (rfl | rfl | rfl | rfl | rfl | rfl | rfl | rfl | rfl | rfl | rfl)
                all_goals first | exact stable_fx _ | exact stable_rF hld_h _ | exact stable_rF hld_s _ | exact stable_rF hld_k _ | exact stable_rF hld_p _ | exact stable_rF hld_c _ | exact stable_tF hld_h _ _ | exact stable_tF hld_s _ _ | exact stable_tF hld_k _ _ | exact stable_tF hld_p _ _ | exact stable_tF hld_c _ _ | exact stable_tF (hld_pf _) _ _ | exact stable_rF (hld_pf _) _ | exact stable_rF (hld_sf _) _ | exact stable_rG (hld_af _) _ | exact stable_rG hld_p _ | exact stable_wF hld_p hld_p _ _ | exact stable_wF (hld_sf _) (hld_af _) _ _ | exact stable_nb _
              · refine OgSteps.cons ?_ (OgSteps.cons ?_ (OgSteps.cons ?_ (OgSteps.cons ?_ (OgSteps.cons ?_ (OgSteps.cons ?_ (OgSteps.cons ?_ (OgSteps.cons ?_ (OgSteps.cons ?_ (OgSteps.cons ?_ (OgSteps.cons ?_ (OgSteps.nil)))))))))))
                · refine OgStep.pure ?_ ?_
                  · rfl
                  intro u W hS hp
                  refine ⟨.int .u32 z, ?_, rfl⟩
                  simp only [ogMk, Act.put, List.setIfInBounds_toArray, List.set_cons_zero, List.set_cons_succ, Nat.zero_add, Nat.reduceAdd, List.take_succ_cons, List.take_zero, List.drop_succ_cons, List.drop_zero]
                  simp [execOp, Act.eval, go_sem]
                · refine OgStep.pure ?_ ?_
                  · rfl
                  intro u W hS hp
                  refine ⟨.pointer (some ⟨b, 0, none⟩), ?_, rfl⟩
                  simp only [ogMk, Act.put, List.setIfInBounds_toArray, List.set_cons_zero, List.set_cons_succ, Nat.zero_add, Nat.reduceAdd, List.take_succ_cons, List.take_zero, List.drop_succ_cons, List.drop_zero]
                  simp [execOp, Act.eval, go_sem]
                · refine OgStep.pure ?_ ?_
                  · rfl
                  intro u W hS hp
                  have h1 : u 1 = .pointer (some ⟨b, 0, none⟩) := hp ⟨1, .data⟩ (by simp) rfl
                  refine ⟨.pointer (some ⟨b, 0, none⟩), ?_, rfl⟩
                  simp only [ogMk, Act.put, List.setIfInBounds_toArray, List.set_cons_zero, List.set_cons_succ, Nat.zero_add, Nat.reduceAdd, List.take_succ_cons, List.take_zero, List.drop_succ_cons, List.drop_zero]
                  simp [execOp, Act.eval, go_sem, h1]
                · refine OgStep.pure ?_ ?_
                  · rfl
                  intro u W hS hp
                  have h2 : u 2 = .pointer (some ⟨b, 0, none⟩) := hp ⟨2, .data⟩ (by simp) rfl
                  refine ⟨.pointer (some ⟨b, 1, none⟩), ?_, rfl⟩
                  simp only [ogMk, Act.put, List.setIfInBounds_toArray, List.set_cons_zero, List.set_cons_succ, Nat.zero_add, Nat.reduceAdd, List.take_succ_cons, List.take_zero, List.drop_succ_cons, List.drop_zero]
                  simp [execOp, Act.eval, go_sem, h2]
                · refine OgStep.pure ?_ ?_
                  · rfl
                  intro u W hS hp
                  have h3 : u 3 = .pointer (some ⟨b, 1, none⟩) := hp ⟨3, .data⟩ (by simp) rfl
                  have j1 := (S8.out.below hS).cx.key 1 _ rfl
                  (try dsimp only at j1)
                  refine ⟨.int .i64 Q1, ?_, rfl⟩
                  simp only [ogMk, Act.put, List.setIfInBounds_toArray, List.set_cons_zero, List.set_cons_succ, Nat.zero_add, Nat.reduceAdd, List.take_succ_cons, List.take_zero, List.drop_succ_cons, List.drop_zero]
                  simp [execOp, Act.eval, go_sem, h3, j1]
                · refine OgStep.pure ?_ ?_
                  · rfl
                  intro u W hS hp
                  refine ⟨.pointer (some ⟨b, 0, none⟩), ?_, rfl⟩
                  simp only [ogMk, Act.put, List.setIfInBounds_toArray, List.set_cons_zero, List.set_cons_succ, Nat.zero_add, Nat.reduceAdd, List.take_succ_cons, List.take_zero, List.drop_succ_cons, List.drop_zero]
                  simp [execOp, Act.eval, go_sem]
                · refine OgStep.pure ?_ ?_
                  · rfl
                  intro u W hS hp
                  have h5 : u 5 = .pointer (some ⟨b, 0, none⟩) := hp ⟨5, .data⟩ (by simp) rfl
                  refine ⟨.pointer (some ⟨b, 0, none⟩), ?_, rfl⟩
                  simp only [ogMk, Act.put, List.setIfInBounds_toArray, List.set_cons_zero, List.set_cons_succ, Nat.zero_add, Nat.reduceAdd, List.take_succ_cons, List.take_zero, List.drop_succ_cons, List.drop_zero]
                  simp [execOp, Act.eval, go_sem, h5]
                · refine OgStep.pure ?_ ?_
                  · rfl
                  intro u W hS hp
                  have h6 : u 6 = .pointer (some ⟨b, 0, none⟩) := hp ⟨6, .data⟩ (by simp) rfl
                  refine ⟨.pointer (some ⟨b, 0, none⟩), ?_, rfl⟩
                  simp only [ogMk, Act.put, List.setIfInBounds_toArray, List.set_cons_zero, List.set_cons_succ, Nat.zero_add, Nat.reduceAdd, List.take_succ_cons, List.take_zero, List.drop_succ_cons, List.drop_zero]
                  simp [execOp, Act.eval, go_sem, h6]
                · refine OgStep.pure ?_ ?_
                  · rfl
                  intro u W hS hp
                  have h7 : u 7 = .pointer (some ⟨b, 0, none⟩) := hp ⟨7, .data⟩ (by simp) rfl
                  have j0 := (S8.out.below hS).cx.key 0 _ rfl
                  (try dsimp only at j0)
                  refine ⟨.int .i64 n, ?_, rfl⟩
                  simp only [ogMk, Act.put, List.setIfInBounds_toArray, List.set_cons_zero, List.set_cons_succ, Nat.zero_add, Nat.reduceAdd, List.take_succ_cons, List.take_zero, List.drop_succ_cons, List.drop_zero]
                  simp [execOp, Act.eval, go_sem, h7, j0]
                · refine OgStep.calls ?_ ?_
                  · rfl
                  intro u W hS hp
                  have h0 : u 0 = .int .u32 z := hp ⟨0, .data⟩ (by simp) rfl
                  have h4 : u 4 = .int .i64 Q1 := hp ⟨4, .data⟩ (by simp) rfl
                  have h8 : u 8 = .int .i64 n := hp ⟨8, .data⟩ (by simp) rfl
                  refine ⟨102, #[.int .u32 z, .int .i64 Q1, .int .i64 n], ?_, calls_fx (HOF.out W) rfl⟩
                  simp only [ogMk, Act.put, List.setIfInBounds_toArray, List.set_cons_zero, List.set_cons_succ, Nat.zero_add, Nat.reduceAdd, List.take_succ_cons, List.take_zero, List.drop_succ_cons, List.drop_zero]
                  simp [execOp, Act.eval, go_sem, h0, h4, h8]
                · refine OgStep.made ?_ ?_
                  · rfl
                  intro u W hS hp
                  refine ⟨.pointer (some ⟨W.heap.size, 0, none⟩), _, ?_, (Below.refl _ W).alloc (Nat.le_refl _) _, show Nb w8.heap.size _ (W.alloc (Pb.Prx Pb.zr)) from ⟨W.heap.size, rfl, hS.size, cx_box W _ _ _ rfl⟩⟩
                  simp only [ogMk, Act.put, List.setIfInBounds_toArray, List.set_cons_zero, List.set_cons_succ, Nat.zero_add, Nat.reduceAdd, List.take_succ_cons, List.take_zero, List.drop_succ_cons, List.drop_zero]
                  simp [execOp, Act.eval, go_sem]
                  rfl
              · intro u W hS hF
                have e0 : u 0 = .int .u32 z := hF 0 (by decide)
                have e1 : u 1 = .pointer (some ⟨b, 0, none⟩) := hF 1 (by decide)
                have e2 : u 2 = .pointer (some ⟨b, 0, none⟩) := hF 2 (by decide)
                have e3 : u 3 = .pointer (some ⟨b, 1, none⟩) := hF 3 (by decide)
                have e4 : u 4 = .int .i64 Q1 := hF 4 (by decide)
                have e5 : u 5 = .pointer (some ⟨b, 0, none⟩) := hF 5 (by decide)
                have e6 : u 6 = .pointer (some ⟨b, 0, none⟩) := hF 6 (by decide)
                have e7 : u 7 = .pointer (some ⟨b, 0, none⟩) := hF 7 (by decide)
                have e8 : u 8 = .int .i64 n := hF 8 (by decide)
                have e9 : u 9 = .agg #[.int .u32 p.a, .int .i64 p.i, .int .i64 p.s, .int .i64 p.t, .int .i64 p.n] := hF 9 (by decide)
                obtain ⟨g, e10, hg1, hg2⟩ : Nb w8.heap.size (u 10) W := hF 10 (by decide)
                simp only [ogMk, Act.put, List.setIfInBounds_toArray, List.set_cons_zero, List.set_cons_succ, Nat.zero_add, Nat.reduceAdd, List.take_succ_cons, List.take_zero, List.drop_succ_cons, List.drop_zero]
                rw [e0, e1, e2, e3, e4, e5, e6, e7, e8, e9, e10]
                clear e0 e1 e2 e3 e4 e5 e6 e7 e8 e9 e10 hF
                have BW := hS
                go_wp2_with (refine at_put 97 _ _ g [] (Pb.prl Pb.zr) (Pb.prl p) [] (by simpa using hg2) rfl (by rw [sizePr]; rfl) (by simp [Pb.prl, Value.oneCell']) rfl rfl rfl rfl ?_)
                intro w9 GX0 hb9 hk9
                have GX := Lib.hid (show Cx w9 g (Pb.prl p) by simpa using GX0.out)
                have B9 := Lib.hid (BW.trans (hb9.out _ hg1))
                have RP9 := Lib.hid (RP8.out.below B9.out)
                have RS9 := Lib.hid (RS8.out.below B9.out)
                have RA9 := Lib.hid (RA8.out.below B9.out)
                have OW9 := Lib.hid (own_keep OW8.out B9.out)
                have S9 := Lib.hid (S8.out.below B9.out)
                have OB9 := Lib.hid (OB8.out.trans (Ob.of B9.out S8.out.lt))
                have HG := Lib.hid (show b < g from Nat.lt_of_lt_of_le S8.out.lt hg1)
                clear BW GX0 hb9 hk9 hg1 hg2 hS B9 RP8 RS8 RA8 OW8 S8 OB8
                go_wp2_with fail
                refine wp_region_below [fx (.pointer (some ⟨b, 0, none⟩)), fx (.pointer (some ⟨b, 0, none⟩)), fx (.pointer (some ⟨b, 5, none⟩)), fx (.slice Ap PB.length cp), fx (.agg #[.int .u32 p.a, .int .i64 p.i, .int .i64 p.s, .int .i64 p.t, .int .i64 p.n]), tF (Rpf w9.heap.size) ys er, tF (Rpf w9.heap.size) ys er, rF (Rpf w9.heap.size) ys, fx (.int .i64 er), rF (Rpf w9.heap.size) ys, fx (.int .i64 er)]
                  (by kernel_rfl) (by kernel_rfl) (by kernel_rfl) ?_ ?_ ?_
                · simp only [List.mem_cons, List.not_mem_nil, or_false]
                  rintro φ (rfl | rfl | rfl | rfl | rfl | rfl | rfl | rfl | rfl | rfl | rfl)
                  all_goals first | exact stable_fx _ | exact stable_rF hld_h _ | exact stable_rF hld_s _ | exact stable_rF hld_k _ | exact stable_rF hld_p _ | exact stable_rF hld_c _ | exact stable_tF hld_h _ _ | exact stable_tF hld_s _ _ | exact stable_tF hld_k _ _ | exact stable_tF hld_p _ _ | exact stable_tF hld_c _ _ | exact stable_tF (hld_pf _) _ _ | exact stable_rF (hld_pf _) _ | exact stable_rF (hld_sf _) _ | exact stable_rG (hld_af _) _ | exact stable_rG hld_p _ | exact stable_wF hld_p hld_p _ _ | exact stable_wF (hld_sf _) (hld_af _) _ _ | exact stable_nb _
                · refine OgSteps.cons ?_ (OgSteps.cons ?_ (OgSteps.cons ?_ (OgSteps.cons ?_ (OgSteps.cons ?_ (OgSteps.cons ?_ (OgSteps.cons ?_ (OgSteps.cons ?_ (OgSteps.cons ?_ (OgSteps.cons ?_ (OgSteps.cons ?_ (OgSteps.nil)))))))))))
                  · refine OgStep.pure ?_ ?_
                    · rfl
                    intro u W hS hp
                    refine ⟨.pointer (some ⟨b, 0, none⟩), ?_, rfl⟩
                    simp only [ogMk, Act.put, List.setIfInBounds_toArray, List.set_cons_zero, List.set_cons_succ, Nat.zero_add, Nat.reduceAdd, List.take_succ_cons, List.take_zero, List.drop_succ_cons, List.drop_zero]
                    simp [execOp, Act.eval, go_sem]
                  · refine OgStep.pure ?_ ?_
                    · rfl
                    intro u W hS hp
                    have h0 : u 0 = .pointer (some ⟨b, 0, none⟩) := hp ⟨0, .data⟩ (by simp) rfl
                    refine ⟨.pointer (some ⟨b, 0, none⟩), ?_, rfl⟩
                    simp only [ogMk, Act.put, List.setIfInBounds_toArray, List.set_cons_zero, List.set_cons_succ, Nat.zero_add, Nat.reduceAdd, List.take_succ_cons, List.take_zero, List.drop_succ_cons, List.drop_zero]
                    simp [execOp, Act.eval, go_sem, h0]
                  · refine OgStep.pure ?_ ?_
                    · rfl
                    intro u W hS hp
                    have h1 : u 1 = .pointer (some ⟨b, 0, none⟩) := hp ⟨1, .data⟩ (by simp) rfl
                    refine ⟨.pointer (some ⟨b, 5, none⟩), ?_, rfl⟩
                    simp only [ogMk, Act.put, List.setIfInBounds_toArray, List.set_cons_zero, List.set_cons_succ, Nat.zero_add, Nat.reduceAdd, List.take_succ_cons, List.take_zero, List.drop_succ_cons, List.drop_zero]
                    simp [execOp, Act.eval, go_sem, h1]
                  · refine OgStep.pure ?_ ?_
                    · rfl
                    intro u W hS hp
                    have h2 : u 2 = .pointer (some ⟨b, 5, none⟩) := hp ⟨2, .data⟩ (by simp) rfl
                    have j5 := (S9.out.below hS).cx.key 5 _ rfl
                    (try dsimp only at j5)
                    refine ⟨.slice Ap PB.length cp, ?_, rfl⟩
                    simp only [ogMk, Act.put, List.setIfInBounds_toArray, List.set_cons_zero, List.set_cons_succ, Nat.zero_add, Nat.reduceAdd, List.take_succ_cons, List.take_zero, List.drop_succ_cons, List.drop_zero]
                    simp [execOp, Act.eval, go_sem, h2, j5]
                  · refine OgStep.pure ?_ ?_
                    · rfl
                    intro u W hS hp
                    have G := (cx_ob9 GX.out hS)
                    have g0 := G.key 0 _ rfl
                    have g1 := G.key 1 _ rfl
                    have g2 := G.key 2 _ rfl
                    have g3 := G.key 3 _ rfl
                    have g4 := G.key 4 _ rfl
                    (try dsimp only at g0 g1 g2 g3 g4)
                    refine ⟨.agg #[.int .u32 p.a, .int .i64 p.i, .int .i64 p.s, .int .i64 p.t, .int .i64 p.n], ?_, rfl⟩
                    simp only [ogMk, Act.put, List.setIfInBounds_toArray, List.set_cons_zero, List.set_cons_succ, Nat.zero_add, Nat.reduceAdd, List.take_succ_cons, List.take_zero, List.drop_succ_cons, List.drop_zero]
                    simp [execOp, Act.eval, go_sem, g0, g1, g2, g3, g4]
                  · refine OgStep.calls ?_ ?_
                    · rfl
                    intro u W hS hp
                    have h3 : u 3 = .slice Ap PB.length cp := hp ⟨3, .data⟩ (by simp) rfl
                    have h4 : u 4 = .agg #[.int .u32 p.a, .int .i64 p.i, .int .i64 p.s, .int .i64 p.t, .int .i64 p.n] := hp ⟨4, .data⟩ (by simp) rfl
                    refine ⟨71, #[.slice Ap PB.length cp, .agg #[.int .u32 p.a, .int .i64 p.i, .int .i64 p.s, .int .i64 p.t, .int .i64 p.n]], ?_, calls_tF (tp_pf (HPU.out W (RP9.out.below hS)) hS.size) rfl⟩
                    simp only [ogMk, Act.put, List.setIfInBounds_toArray, List.set_cons_zero, List.set_cons_succ, Nat.zero_add, Nat.reduceAdd, List.take_succ_cons, List.take_zero, List.drop_succ_cons, List.drop_zero]
                    simp [execOp, Act.eval, go_sem, h3, h4]
                  · refine OgStep.pure ?_ ?_
                    · rfl
                    intro u W hS hp
                    obtain ⟨A7, c7, e7, h7⟩ : tF (Rpf w9.heap.size) ys er (u 5) W := hp ⟨5, .data⟩ (by simp) rfl
                    refine ⟨.tuple #[.slice A7 ys.length c7, .int .i64 er], ?_, ⟨A7, c7, rfl, h7⟩⟩
                    simp only [ogMk, Act.put, List.setIfInBounds_toArray, List.set_cons_zero, List.set_cons_succ, Nat.zero_add, Nat.reduceAdd, List.take_succ_cons, List.take_zero, List.drop_succ_cons, List.drop_zero]
                    simp [execOp, Act.eval, go_sem, e7]
                  · refine OgStep.pure ?_ ?_
                    · rfl
                    intro u W hS hp
                    obtain ⟨A7, c7, e7, h7⟩ : tF (Rpf w9.heap.size) ys er (u 6) W := hp ⟨6, .data⟩ (by simp) rfl
                    refine ⟨.slice A7 ys.length c7, ?_, ⟨A7, c7, rfl, h7⟩⟩
                    simp only [ogMk, Act.put, List.setIfInBounds_toArray, List.set_cons_zero, List.set_cons_succ, Nat.zero_add, Nat.reduceAdd, List.take_succ_cons, List.take_zero, List.drop_succ_cons, List.drop_zero]
                    simp [execOp, Act.eval, go_sem, e7]
                  · refine OgStep.pure ?_ ?_
                    · rfl
                    intro u W hS hp
                    obtain ⟨A7, c7, e7, h7⟩ : tF (Rpf w9.heap.size) ys er (u 6) W := hp ⟨6, .data⟩ (by simp) rfl
                    refine ⟨.int .i64 er, ?_, rfl⟩
                    simp only [ogMk, Act.put, List.setIfInBounds_toArray, List.set_cons_zero, List.set_cons_succ, Nat.zero_add, Nat.reduceAdd, List.take_succ_cons, List.take_zero, List.drop_succ_cons, List.drop_zero]
                    simp [execOp, Act.eval, go_sem, e7]
                  · refine OgStep.pure ?_ ?_
                    · rfl
                    intro u W hS hp
                    obtain ⟨A7, c7, e7, h7⟩ : rF (Rpf w9.heap.size) ys (u 7) W := hp ⟨7, .data⟩ (by simp) rfl
                    refine ⟨.slice A7 ys.length c7, ?_, ⟨A7, c7, rfl, h7⟩⟩
                    simp only [ogMk, Act.put, List.setIfInBounds_toArray, List.set_cons_zero, List.set_cons_succ, Nat.zero_add, Nat.reduceAdd, List.take_succ_cons, List.take_zero, List.drop_succ_cons, List.drop_zero]
                    simp [execOp, Act.eval, go_sem, e7]
                  · refine OgStep.pure ?_ ?_
                    · rfl
                    intro u W hS hp
                    have h8 : u 8 = .int .i64 er := hp ⟨8, .data⟩ (by simp) rfl
                    refine ⟨.int .i64 er, ?_, rfl⟩
                    simp only [ogMk, Act.put, List.setIfInBounds_toArray, List.set_cons_zero, List.set_cons_succ, Nat.zero_add, Nat.reduceAdd, List.take_succ_cons, List.take_zero, List.drop_succ_cons, List.drop_zero]
                    simp [execOp, Act.eval, go_sem, h8]
                · intro u W9 hS hF
                  have e0 : u 0 = .pointer (some ⟨b, 0, none⟩) := hF 0 (by decide)
                  have e1 : u 1 = .pointer (some ⟨b, 0, none⟩) := hF 1 (by decide)
                  have e2 : u 2 = .pointer (some ⟨b, 5, none⟩) := hF 2 (by decide)
                  have e3 : u 3 = .slice Ap PB.length cp := hF 3 (by decide)
                  have e4 : u 4 = .agg #[.int .u32 p.a, .int .i64 p.i, .int .i64 p.s, .int .i64 p.t, .int .i64 p.n] := hF 4 (by decide)
                  have e8 : u 8 = .int .i64 er := hF 8 (by decide)
                  have e10 : u 10 = .int .i64 er := hF 10 (by decide)
                  obtain ⟨Aq, cq, e9, hcq, hRq⟩ : rF (Rpf w9.heap.size) ys (u 9) W9 := hF 9 (by decide)
                  simp only [ogMk, Act.put, List.setIfInBounds_toArray, List.set_cons_zero, List.set_cons_succ, Nat.zero_add, Nat.reduceAdd, List.take_succ_cons, List.take_zero, List.drop_succ_cons, List.drop_zero]
                  rw [e0, e1, e2, e3, e4, e8, e10, e9]
                  clear e0 e1 e2 e3 e4 e8 e10 e9 hF
                  have RS10 := Lib.hid (RS9.out.below hS)
                  have RA10 := Lib.hid (RA9.out.below hS)
                  have RP10 := Lib.hid (RP9.out.below hS)
                  have OW10 := Lib.hid (own_keep OW9.out hS)
                  have S10 := Lib.hid (S9.out.below hS)
                  have OB10 := Lib.hid (OB9.out.trans (Ob.of hS S9.out.lt))
                  have GX10 := Lib.hid (cx_ob9 GX.out hS)
                  have VQ := Lib.hid (show Av Aq ys.length u7 from fun y g hy _ hg => by have := hRq.2 y hy; have := (OW9.out.lt g hg).2; omega)
                  have RQ := Lib.hid hRq.1
                  clear hS RP9 RS9 RA9 OW9 S9 OB9 GX hRq
                  go_wp2_with fail
                  refine (replaceP_x b [.int .i64 n, .int .i64 Q1, .slice A1 hs.length c1, .slice A8 s1.length c8, .slice A3 kn.length c3] (.slice Ap PB.length cp) Aq ys.length cq [.slice A5 cs.length c5] er W9 S10.out).mono ?_
                  rintro e w11 ⟨rfl, hs11, hb11, hk11⟩
                  have P11 := Ob.put hb11 hk11
                  have RS11 := Lib.hid (rw_apart mk_W RS10.out S10.out.bs hk11)
                  have RA11 := Lib.hid (rw_apart mk_a RA10.out S10.out.bs hk11)
                  have OW11 := Lib.hid (own_ob OW10.out P11 L3.out)
                  have OB11 := Lib.hid (OB10.out.trans P11)
                  have S11 := Lib.hid hs11
                  by_cases h0 : er = 0
                  · subst h0
                    rw [if_pos rfl] at HT
                    have S11 := Lib.hid (show Sb w11 b (stl ⟨n, Q1, hs, s1, kn, ys, cs⟩ ⟨A1, c1, A8, c8, A3, c3, Aq, cq, A5, c5⟩) from by have := S11.out; rw [if_pos rfl] at this; exact this)
                    have RQ11 := Lib.hid (rw_apart mk_P RQ.out S10.out.bs hk11)
                    have GX11 := (show Cx w11 g (Pb.prl p) from cx_ob GX10.out P11 (by have := HG.out; omega))
                    have hat : ∀ j v, (Pb.prl p)[j]? = some v → w11.cell? ((⟨g, 0, none⟩ : Addr).add j) = some v := fun j v hv => by have := GX11.key j v hv; by_cases hj0 : j = 0; (subst hj0; simpa [Addr.add] using this); simpa [Addr.add, hj0] using this
                    clear P11 hb11 hk11 hs11 GX11 RP10 RS10 RA10 OW10 S10 OB10 GX10 RQ
                    go_wp2_with (refine Pb.at_load37 (.tmp 15) rfl rfl ⟨g, 0, none⟩ p rfl hat ?_)
                    refine (HPK.out _).mono ?_
                    rintro e w12 ⟨rfl, hb⟩
                    have B12 := Lib.hid hb
                    clear hb hat
                    have RX := Lib.hid (pk_box w12 ⟨pa, pf, pt, p0, p1, p2, p3, p4, p5, pi, ps⟩)
                    have BX := Lib.hid (show Below w11.heap.size w11 (w12.alloc (Pb.Pkx ⟨pa, pf, pt, p0, p1, p2, p3, p4, p5, pi, ps⟩)) from B12.out.trans ((Below.refl _ w12).alloc (by have := B12.out.size; omega) _))
                    have RS13 := Lib.hid (RS11.out.below BX.out)
                    have RA13 := Lib.hid (RA11.out.below BX.out)
                    have RQ13 := Lib.hid (RQ11.out.below BX.out)
                    have OW13 := Lib.hid (own_keep OW11.out BX.out)
                    have OB13 := Lib.hid (OB11.out.trans (Ob.of BX.out S11.out.lt))
                    have S13 := Lib.hid (S11.out.below BX.out)
                    have hb13 := OB13.out.size
                    clear RS11 RA11 RQ11 OW11 OB11 S11 BX B12
                    unfold Pb.Pkx at *
                    go_wp2_with (at_builtin; refine wpList_append_rw2 tK _ rfl (.tmp 118) (.tmp 121) rfl w3.heap.size _ ps0.length ps0 (by simp [Act.eval, Act.put]) OW13.out _ 1 1 [⟨pa, pf, pt, p0, p1, p2, p3, p4, p5, pi, ps⟩] (by simp [Act.eval, Act.put]) rfl RX.out (by omega) hb13 ?_)
                    intro v14 w14 ho14 hg14 hn14
                    rw [← World.size_alloc w12 (.cells #[.bool pa, .int .u32 pf, .int .u32 pt, .int .u8 p0, .int .u8 p1, .int .u8 p2, .int .u8 p3, .int .u8 p4, .int .u8 p5, .int .i64 pi, .int .i64 ps] 103)] at hn14
                    have L14 := Lib.hid (show Lp b w3 ⟨n, q, hs, s1, kn, k1, cs⟩ ⟨A1, c1, A8, c8, A3, c3, A6, c6, A5, c5⟩ A8 (some y) s1 a1 (⟨n, Q1, hs, s1, kn, ys, cs⟩, ps0 ++ [⟨pa, pf, pt, p0, p1, p2, p3, p4, p5, pi, ps⟩]) v14 w14 from
                      ⟨OB13.out.grown hg14 (fun g hg => (OW13.out.lt g hg).1) L3.out, rfl, ⟨Aq, cq, S13.out.grown hg14 (fun g hg => Nat.lt_of_lt_of_le L3.out (OW13.out.lt g hg).1), hcq, rw_av RQ13.out hg14 VQ.out, VQ.out.next RQ13.out hn14⟩,
                        (by rw [show ((⟨n, Q1, hs, s1, kn, ys, cs⟩, ps0 ++ [⟨pa, pf, pt, p0, p1, p2, p3, p4, p5, pi, ps⟩]) : Stt × List Pb.Pk).2.length = ps0.length + 1 from by simp]; exact ho14), rw_av RS13.out hg14 HAV.out.2.1, HAV.out.2.1.next RS13.out hn14, rw_av RA13.out hg14 HAV.out.2.2, HAV.out.2.2.next RA13.out hn14, (by have := HIN.out; rw [HT.out] at this; exact this)⟩)
                    clear ho14 hg14 hn14
                    go_wp2_with fail
                    go_roundw
                    case rel => exact ⟨j + 1, by go_num, by omega, Lib.hid (by rw [HF.out, HT.out]; exact L14.out)⟩
                    case measure => simp [intOf]; omega
                  · rw [if_neg h0] at HT
                    have S11 := Lib.hid (show Sb w11 b (stl ⟨n, Q1, hs, s1, kn, PB, cs⟩ ⟨A1, c1, A8, c8, A3, c3, Ap, cp, A5, c5⟩) from by have := S11.out; rw [if_neg h0] at this; exact this)
                    have L14 := Lib.hid (show Lp b w3 ⟨n, q, hs, s1, kn, k1, cs⟩ ⟨A1, c1, A8, c8, A3, c3, A6, c6, A5, c5⟩ A8 (some y) s1 a1 (⟨n, Q1, hs, s1, kn, PB, cs⟩, ps0) u7 w11 from
                      ⟨OB11.out, rfl, ⟨Ap, cp, S11.out, HCP.out, rw_apart mk_P RP10.out S10.out.bs hk11, HAV.out.1⟩, OW11.out, RS11.out, HAV.out.2.1, RA11.out, HAV.out.2.2, (by have := HIN.out; rw [HT.out] at this; exact this)⟩)
                    clear P11 hb11 hk11 hs11
                    go_wp2_with fail
                    go_roundw
                    case rel => exact ⟨j + 1, by go_num, by omega, Lib.hid (by rw [HF.out, HT.out]; exact L14.out)⟩
                    case measure => simp [intOf]; omega
            · obtain rfl : j = N := by omega
              have hW := HW.out
              rw [List.take_of_length_le (by rw [HN.out]; exact Nat.le_refl _)] at hW
              have LPE := Lib.hid hW
              clear hW HW
              go_wp2_with fail
              go_ret
              rw [HQ.out]
              have hpl : (a1.foldl t5q (⟨n, q, hs, s1, kn, k1, cs⟩, k2.map Pb.pkO)).2.length ≤ 300 := by
                have h1 := fold5_len a1 (⟨n, q, hs, s1, kn, k1, cs⟩, k2.map Pb.pkO)
                have h2 := HM.out
                have h3 := HN.out
                have h4 := HA1.out
                simp only [List.length_map] at h1
                omega
              generalize a1.foldl t5q (⟨n, q, hs, s1, kn, k1, cs⟩, k2.map Pb.pkO) = S at *
              obtain ⟨hob, he, ⟨Ap, cp, hsb, hcp, hrp, -⟩, hown, hrs, -, -, -, hin⟩ := LPE.out
              obtain ⟨Az, cz, hz, hcz, -, -, hrz, -⟩ := own_rw (E := ePk) hown (by omega)
              refine ⟨⟨Az, cz, ?_, hcz, hrz⟩, ⟨_, hsb, ?_⟩, O3.out.trans hob⟩
              · show Ending.returned u7 = _
                rw [hz]
              · have hl := R3L.out.ob S3.out.bs hob
                rw [he] at hrp hcp ⊢
                exact ⟨hl.h, hl.hc, hrs, R8c.out, hl.k, hl.kc, hrp, hcp, hl.c, hl.cc⟩
end Go.Proofs.YtilneflfeegnfaaGreat
namespace Go.Proofs.YtilneflfeegnfaaGreat
open Go.RowKit
theorem fnd_open {xs : List Cs.Ca} (h : Cs.V xs) {i : Nat} {k : Cs.Ca} (hk : xs[i]? = some k) (ho : Cs.opB k = true) : Cs.fnd k.a xs = some i := by
  cases hf : Cs.fnd k.a xs with
  | none => exact absurd rfl (Cs.fnd_no hf k (List.mem_of_getElem? hk) ho)
  | some j =>
    obtain ⟨x, hx, ha, hox⟩ := Cs.fnd_at hf
    by_cases hij : i = j
    · rw [hij]
    · exfalso
      obtain ⟨hi, ei⟩ := List.getElem?_eq_some_iff.1 hk
      obtain ⟨hj, ej⟩ := List.getElem?_eq_some_iff.1 hx
      have hp := List.pairwise_iff_getElem.1 h.r.dis
      rcases Nat.lt_or_gt_of_ne hij with hl | hl
      · have := hp i j hi hj hl
        rw [ei, ej] at this
        exact this ho hox ha.symm
      · have := hp j i hj hi hl
        rw [ei, ej] at this
        exact this hox ho ha
theorem stO_open {xs : List Cs.Ca} (h : Cs.V xs) {i : Nat} {k : Cs.Ca} (hk : xs[i]? = some k) (ho : Cs.opB k = true) (ck : Int → Bool) (tg now : Int) (hc : ck k.g = true) : Cs.stO ck tg now k.a xs = (xs.set i (Cs.mv tg now k), 0) := by
  unfold Cs.stO
  rw [fnd_open h hk ho]
  dsimp only
  rw [Cs.getD_at hk, if_pos hc]
  unfold Cs.mvA
  rw [Cs.getD_at hk]
theorem stpO_open {x : Stt} (h : In x) {i : Nat} {k : Cs.Ca} (hk : x.cs[i]? = some k) (ho : Cs.opB k = true) : stpO x k.a = { x with cs := x.cs.set i (Cs.mv 4 x.now k) } := by
  unfold stpO
  rw [stO_open h.cv.v hk ho _ _ _ rfl]
  rfl
theorem dnS_open {x : Stt} (h : In x) {i : Nat} {k : Cs.Ca} (hk : x.cs[i]? = some k) (hg : k.g = 1) : dnS x k.a = { x with cs := x.cs.set i (Cs.mv 5 x.now k) } ∧ (Cs.stO (fun g => g == 1) 5 x.now k.a x.cs).1 = x.cs.set i (Cs.mv 5 x.now k) := by
  have e := stO_open h.cv.v hk (by unfold Cs.opB; rw [hg]; rfl) (fun g => g == 1) 5 x.now (by rw [hg]; rfl)
  unfold dnS
  rw [e]
  exact ⟨rfl, rfl⟩
theorem tkS_held {x : Stt} {a : Int} (h : Hl.isAt x.hs a = true) : tkS x a = { x with hs := Hl.takeR x.hs a } := by
  unfold tkS
  rw [if_pos (by unfold Hl.takeC; rw [if_pos h])]
theorem gbk_t2k (c : Cf) {x : Stt} (h : In x) {i : Nat} {k : Cs.Ca} (hk : x.cs[i]? = some k) : gbk c x k = t2k c x k ∧ ∃ m, (gbk c x k).cs = x.cs.set i m ∨ gbk c x k = x := by
  unfold gbk t2k
  by_cases hg : k.g = 1
  · rw [if_pos hg, if_pos hg]
    unfold stlS
    by_cases hh : hoO c x k.a = 3
    · rw [if_pos hh, if_pos hh]
      obtain ⟨h1, h2⟩ := dnS_open h hk hg
      have e3 := tkS_held (x := { x with cs := x.cs.set i (Cs.mv 5 x.now k) }) (a := k.a) (stale_held hh)
      rw [h1, e3, h2]
      exact ⟨rfl, _, .inl rfl⟩
    · rw [if_neg hh, if_neg hh, stpO_open h hk (by unfold Cs.opB; rw [hg]; rfl)]
      exact ⟨rfl, _, .inl rfl⟩
  · rw [if_neg hg, if_neg hg]
    exact ⟨rfl, Cs.zc, .inr rfl⟩
theorem t2_fold (c : Cf) {x : Stt} (h : In x) : ∀ i, i ≤ x.cs.length → (x.cs.take i).foldl (gbk c) x = (x.cs.take i).foldl (t2k c) x ∧ ∀ j, i ≤ j → ((x.cs.take i).foldl (gbk c) x).cs[j]? = x.cs[j]? := by
  intro i
  induction i with
  | zero => intro _; exact ⟨rfl, fun _ _ => rfl⟩
  | succ i ih =>
    intro hi
    obtain ⟨h1, h2⟩ := ih (by omega)
    have hk := List.getElem?_eq_getElem (show i < x.cs.length by omega)
    rw [fold_take _ _ hk, fold_take _ _ hk, ← h1]
    have hI := in_gbt h c (x.cs.take i)
    obtain ⟨e1, m, e2⟩ := gbk_t2k c hI (by rw [h2 i (Nat.le_refl _)]; exact hk)
    refine ⟨e1, fun j hj => ?_⟩
    rcases e2 with e2 | e2
    · rw [e2, List.getElem?_set_ne (by omega)]
      exact h2 j (by omega)
    · rw [e2]
      exact h2 j (by omega)
theorem gb_t2 (c : Cf) {x : Stt} (h : In x) : gbS c x = t2 c x := by
  have := (t2_fold c h x.cs.length (Nat.le_refl _)).1
  rw [List.take_length] at this
  exact this
end Go.Proofs.YtilneflfeegnfaaGreat
namespace Go.Proofs.YtilneflfeegnfaaGreat
open Go.RowKit
theorem ad_one {n : Int} (h0 : 0 ≤ n) (h1 : n ≤ 1099511627776) : Sw.ad n 1 = min (n + 1) 1099511627776 := by
  rw [← Sw.ad_eq 1 h0 h1]
  omega
theorem calls_RP {α : Type} {R : World → Option Addr → List α → Prop} {f : FuncId} {args : Array Value} {W : World} {ys : List α} {Φ : List (Value → World → Prop)} {i : Nat} (h : Calls Tryz.prog f args W (RP R W ys)) (hi : fAt Φ i = rF R ys) :
    Calls Tryz.prog f args W fun e w' => ∃ v, e = .returned v ∧ Below W.heap.size W w' ∧ fAt Φ i v w' := by
  rw [hi]
  exact h.mono fun e w' ⟨A, cap, he, hc, hr, hb⟩ => ⟨_, he, hb, A, cap, rfl, hc, hr⟩
theorem tickL_eq (c : Cf) {x : Stt} (h : In x) : tickL c x = t5 c (t4 c (t3 c (gbS c (t1 c x)))) := by
  unfold tickL
  rw [gb_t2 c (h.t1 c)]
theorem in_gbs {x : Stt} (h : In x) (c : Cf) : In (gbS c x) := in_gbt h c x.cs
set_option maxRecDepth 100000 in
set_option maxHeartbeats 4000000 in
theorem tickS_any (c : Cf) (x : Stt) (r : Rws) (b : Nat) (w : World) (H : Sb w b (stl x r)) (h : Lie w x r) (hi : In x) (hk : Ck c) :
    Calls Tryz.prog 27 #[cfv c, .pointer (some ⟨b, 0, none⟩)] w fun e w' => (∃ A cap, e = .returned (.slice A (tickL c x).2.length cap) ∧ (tickL c x).2.length ≤ cap ∧ Rw ePk w' A (tickL c x).2) ∧ (∃ r', Sb w' b (stl (tickL c x).1 r') ∧ Lie w' (tickL c x).1 r') ∧ Ob b w w' := by
  have B0 := Lib.hid (show Below w.heap.size w (w.alloc (Cfx c)) from (Below.refl _ w).alloc (Nat.le_refl _) _)
  have C0 := Lib.hid (cm_box w c)
  have S0 := Lib.hid (H.below B0.out)
  have R0 := Lib.hid (h.below B0.out)
  have LT := Lib.hid H.lt
  have O0 := Lib.hid (Ob.of B0.out H.lt)
  have hcd : c.c ≤ 1099511627776 := by have := hk.c1; omega
  have h1 := hi.t1 c
  have h2 := in_gbs h1 c
  have h3 := h2.t3 c
  have h4 := h3.t4 c
  have HG1 := Lib.hid fun r W H h => giveBackS_any c (t1 c x) r b W H h h1 hcd
  have HG2 := Lib.hid fun r W H h => raiseS_any c (gbS c (t1 c x)) r b W H h h2 hcd
  have HG3 := Lib.hid fun r W H h => forgetS_any c (t3 c (gbS c (t1 c x))) r b W H h h3
  have HG4 := Lib.hid fun r W H h => askS_any c (t4 c (t3 c (gbS c (t1 c x)))) r b W H h h4 hk
  have HQ := Lib.hid (tickL_eq c hi)
  have HAD := Lib.hid fun W => Sw.add_any x.now 1 W
  have had := ad_one hi.n0 hi.n1
  have HTK := Lib.hid fun W (hW : Rw Cs.eA W r.c x.cs) => (Cs.tick_any c (min (x.now + 1) 1099511627776) r.c x.cs r.cc W hW h.cc (by have := hi.c16; omega)).mono (R' := RP Rc W (Cs.tkO c.h (min (x.now + 1) 1099511627776) x.cs)) fun _ _ k => own_rp k (by unfold Cs.tkO; rw [List.length_map]; have := hi.c16; omega)
  have HX1 := Lib.hid (show (⟨min (x.now + 1) 1099511627776, x.seq, x.hs, x.sw, x.kn, x.pb, Cs.tkO c.h (min (x.now + 1) 1099511627776) x.cs⟩ : Stt) = t1 c x from rfl)
  rw [had] at HAD
  obtain ⟨ys, hys⟩ : ∃ ys, Cs.tkO c.h (min (x.now + 1) 1099511627776) x.cs = ys := ⟨_, rfl⟩
  obtain ⟨n1, hn1⟩ : ∃ n1, min (x.now + 1) 1099511627776 = n1 := ⟨_, rfl⟩
  rw [hys] at HTK HX1
  rw [hn1] at HTK HX1 HAD
  clear had hys hn1 hi hk h H h1 h2 h3 h4 hcd
  obtain ⟨n, q, hs, sw, kn, pb, cs⟩ := x
  obtain ⟨A1, c1, A2, c2, A3, c3, A4, c4, A5, c5⟩ := r
  dsimp only at HTK HX1 HAD
  obtain ⟨xa, xb, xc, xd, xe, xf, xg, xh, xi⟩ := c
  simp only [cfv, Cfx] at B0 C0 S0 R0 O0 HTK HG1 HG2 HG3 HG4 ⊢
  have j0 := S0.out.cx.key 0 _ rfl
  (try dsimp only at j0)
  go_enter Tryz.func27, Tryz.ntmps27
  go_wp2_with fail
  change Calls _ _ _ (w.alloc (.cells #[.int .i64 xa, .int .i64 xb, .int .i64 xc, .int .i64 xd, .int .i64 xe, .int .i64 xf, .int .i64 xg, .int .i64 xh, .int .i64 xi] 27)) _
  generalize w.alloc (.cells #[.int .i64 xa, .int .i64 xb, .int .i64 xc, .int .i64 xd, .int .i64 xe, .int .i64 xf, .int .i64 xg, .int .i64 xh, .int .i64 xi] 27) = W0 at *
  refine (HAD.out _).mono ?_
  rintro e w0 ⟨rfl, rfl⟩
  clear j0
  go_wp2_with (refine at_fieldSt 3 _ _ b [] (.int .i64 n) (.int .i64 n1) [.int .i64 q, .slice A1 hs.length c1, .slice A2 sw.length c2, .slice A3 kn.length c3, .slice A4 pb.length c4, .slice A5 cs.length c5] S0.out sizeInt rfl (ns_int _) rfl rfl rfl rfl rfl ?_)
  intro w1 S1 hb1 hk1
  have R1 := Lib.hid (R0.out.apart S0.out.bs hk1.out)
  have O1 := Lib.hid (Ob.put hb1.out hk1.out)
  have C1 := Lib.hid (cm_ob C0.out O1.out (by have := LT.out; omega))
  have S1 := Lib.hid (show Sb w1 b (stl ⟨n1, q, hs, sw, kn, pb, cs⟩ ⟨A1, c1, A2, c2, A3, c3, A4, c4, A5, c5⟩) from S1.out)
  clear hb1 hk1 S0 R0 C0
  go_wp2_with fail
  refine wp_region_below_tail 11 [fx (.pointer (some ⟨b, 0, none⟩)), fx (.agg #[.int .i64 xa, .int .i64 xb, .int .i64 xc, .int .i64 xd, .int .i64 xe, .int .i64 xf, .int .i64 xg, .int .i64 xh, .int .i64 xi]), fx (.pointer (some ⟨b, 0, none⟩)), fx (.pointer (some ⟨b, 0, none⟩)), fx (.pointer (some ⟨b, 6, none⟩)), fx (.slice A5 cs.length c5), fx (.pointer (some ⟨b, 0, none⟩)), fx (.pointer (some ⟨b, 0, none⟩)), fx (.pointer (some ⟨b, 0, none⟩)), fx (.int .i64 n1), rF Rc ys]
    (by kernel_rfl) (by simp) (by kernel_rfl) (by kernel_rfl) (by kernel_rfl) ?_ ?_ ?_
  · simp only [List.mem_cons, List.not_mem_nil, or_false]
    rintro φ (rfl | rfl | rfl | rfl | rfl | rfl | rfl | rfl | rfl | rfl | rfl)
    all_goals first | exact stable_fx _ | exact stable_rF hld_h _ | exact stable_rF hld_s _ | exact stable_rF hld_k _ | exact stable_rF hld_p _ | exact stable_rF hld_c _ | exact stable_tF hld_h _ _ | exact stable_tF hld_s _ _ | exact stable_tF hld_k _ _ | exact stable_tF hld_p _ _ | exact stable_tF hld_c _ _
  · refine OgSteps.cons ?_ (OgSteps.cons ?_ (OgSteps.cons ?_ (OgSteps.cons ?_ (OgSteps.cons ?_ (OgSteps.cons ?_ (OgSteps.cons ?_ (OgSteps.cons ?_ (OgSteps.cons ?_ (OgSteps.cons ?_ (OgSteps.cons ?_ (OgSteps.nil)))))))))))
    · refine OgStep.pure ?_ ?_
      · rfl
      intro u W hS hp
      refine ⟨.pointer (some ⟨b, 0, none⟩), ?_, rfl⟩
      simp only [ogMk, Act.put, List.setIfInBounds_toArray, List.set_cons_zero, List.set_cons_succ, Nat.zero_add, Nat.reduceAdd, List.take_succ_cons, List.take_zero, List.drop_succ_cons, List.drop_zero]
      simp [execOp, Act.eval, go_sem]
    · refine OgStep.pure ?_ ?_
      · rfl
      intro u W hS hp
      have C := C1.out.below hS
      have k0 := C.c0
      have k1 := C.c1
      have k2 := C.c2
      have k3 := C.c3
      have k4 := C.c4
      have k5 := C.c5
      have k6 := C.c6
      have k7 := C.c7
      have k8 := C.c8
      dsimp only at k0 k1 k2 k3 k4 k5 k6 k7 k8
      refine ⟨.agg #[.int .i64 xa, .int .i64 xb, .int .i64 xc, .int .i64 xd, .int .i64 xe, .int .i64 xf, .int .i64 xg, .int .i64 xh, .int .i64 xi], ?_, rfl⟩
      simp only [ogMk, Act.put, List.setIfInBounds_toArray, List.set_cons_zero, List.set_cons_succ, Nat.zero_add, Nat.reduceAdd, List.take_succ_cons, List.take_zero, List.drop_succ_cons, List.drop_zero]
      simp [execOp, Act.eval, go_sem, k0, k1, k2, k3, k4, k5, k6, k7, k8]
    · refine OgStep.pure ?_ ?_
      · rfl
      intro u W hS hp
      refine ⟨.pointer (some ⟨b, 0, none⟩), ?_, rfl⟩
      simp only [ogMk, Act.put, List.setIfInBounds_toArray, List.set_cons_zero, List.set_cons_succ, Nat.zero_add, Nat.reduceAdd, List.take_succ_cons, List.take_zero, List.drop_succ_cons, List.drop_zero]
      simp [execOp, Act.eval, go_sem]
    · refine OgStep.pure ?_ ?_
      · rfl
      intro u W hS hp
      have h2 : u 2 = .pointer (some ⟨b, 0, none⟩) := hp ⟨2, .data⟩ (by simp) rfl
      refine ⟨.pointer (some ⟨b, 0, none⟩), ?_, rfl⟩
      simp only [ogMk, Act.put, List.setIfInBounds_toArray, List.set_cons_zero, List.set_cons_succ, Nat.zero_add, Nat.reduceAdd, List.take_succ_cons, List.take_zero, List.drop_succ_cons, List.drop_zero]
      simp [execOp, Act.eval, go_sem, h2]
    · refine OgStep.pure ?_ ?_
      · rfl
      intro u W hS hp
      have h3 : u 3 = .pointer (some ⟨b, 0, none⟩) := hp ⟨3, .data⟩ (by simp) rfl
      refine ⟨.pointer (some ⟨b, 6, none⟩), ?_, rfl⟩
      simp only [ogMk, Act.put, List.setIfInBounds_toArray, List.set_cons_zero, List.set_cons_succ, Nat.zero_add, Nat.reduceAdd, List.take_succ_cons, List.take_zero, List.drop_succ_cons, List.drop_zero]
      simp [execOp, Act.eval, go_sem, h3]
    · refine OgStep.pure ?_ ?_
      · rfl
      intro u W hS hp
      have h4 : u 4 = .pointer (some ⟨b, 6, none⟩) := hp ⟨4, .data⟩ (by simp) rfl
      have k6 := (S1.out.below hS).cx.key 6 _ rfl
      (try dsimp only at k6)
      refine ⟨.slice A5 cs.length c5, ?_, rfl⟩
      simp only [ogMk, Act.put, List.setIfInBounds_toArray, List.set_cons_zero, List.set_cons_succ, Nat.zero_add, Nat.reduceAdd, List.take_succ_cons, List.take_zero, List.drop_succ_cons, List.drop_zero]
      simp [execOp, Act.eval, go_sem, h4, k6]
    · refine OgStep.pure ?_ ?_
      · rfl
      intro u W hS hp
      refine ⟨.pointer (some ⟨b, 0, none⟩), ?_, rfl⟩
      simp only [ogMk, Act.put, List.setIfInBounds_toArray, List.set_cons_zero, List.set_cons_succ, Nat.zero_add, Nat.reduceAdd, List.take_succ_cons, List.take_zero, List.drop_succ_cons, List.drop_zero]
      simp [execOp, Act.eval, go_sem]
    · refine OgStep.pure ?_ ?_
      · rfl
      intro u W hS hp
      have h6 : u 6 = .pointer (some ⟨b, 0, none⟩) := hp ⟨6, .data⟩ (by simp) rfl
      refine ⟨.pointer (some ⟨b, 0, none⟩), ?_, rfl⟩
      simp only [ogMk, Act.put, List.setIfInBounds_toArray, List.set_cons_zero, List.set_cons_succ, Nat.zero_add, Nat.reduceAdd, List.take_succ_cons, List.take_zero, List.drop_succ_cons, List.drop_zero]
      simp [execOp, Act.eval, go_sem, h6]
    · refine OgStep.pure ?_ ?_
      · rfl
      intro u W hS hp
      have h7 : u 7 = .pointer (some ⟨b, 0, none⟩) := hp ⟨7, .data⟩ (by simp) rfl
      refine ⟨.pointer (some ⟨b, 0, none⟩), ?_, rfl⟩
      simp only [ogMk, Act.put, List.setIfInBounds_toArray, List.set_cons_zero, List.set_cons_succ, Nat.zero_add, Nat.reduceAdd, List.take_succ_cons, List.take_zero, List.drop_succ_cons, List.drop_zero]
      simp [execOp, Act.eval, go_sem, h7]
    · refine OgStep.pure ?_ ?_
      · rfl
      intro u W hS hp
      have h8 : u 8 = .pointer (some ⟨b, 0, none⟩) := hp ⟨8, .data⟩ (by simp) rfl
      have j0 := (S1.out.below hS).cx.key 0 _ rfl
      (try dsimp only at j0)
      refine ⟨.int .i64 n1, ?_, rfl⟩
      simp only [ogMk, Act.put, List.setIfInBounds_toArray, List.set_cons_zero, List.set_cons_succ, Nat.zero_add, Nat.reduceAdd, List.take_succ_cons, List.take_zero, List.drop_succ_cons, List.drop_zero]
      simp [execOp, Act.eval, go_sem, h8, j0]
    · refine OgStep.calls ?_ ?_
      · rfl
      intro u W hS hp
      have h1 : u 1 = .agg #[.int .i64 xa, .int .i64 xb, .int .i64 xc, .int .i64 xd, .int .i64 xe, .int .i64 xf, .int .i64 xg, .int .i64 xh, .int .i64 xi] := hp ⟨1, .data⟩ (by simp) rfl
      have h5 : u 5 = .slice A5 cs.length c5 := hp ⟨5, .data⟩ (by simp) rfl
      have h9 : u 9 = .int .i64 n1 := hp ⟨9, .data⟩ (by simp) rfl
      refine ⟨57, #[.agg #[.int .i64 xa, .int .i64 xb, .int .i64 xc, .int .i64 xd, .int .i64 xe, .int .i64 xf, .int .i64 xg, .int .i64 xh, .int .i64 xi], .slice A5 cs.length c5, .int .i64 n1], ?_, calls_RP (HTK.out W (R1.out.below hS).c) rfl⟩
      simp only [ogMk, Act.put, List.setIfInBounds_toArray, List.set_cons_zero, List.set_cons_succ, Nat.zero_add, Nat.reduceAdd, List.take_succ_cons, List.take_zero, List.drop_succ_cons, List.drop_zero]
      simp [execOp, Act.eval, go_sem, h1, h5, h9]
  · intro u W hS hF
    have e0 : u 0 = .pointer (some ⟨b, 0, none⟩) := hF 0 (by decide)
    have e1 : u 1 = .agg #[.int .i64 xa, .int .i64 xb, .int .i64 xc, .int .i64 xd, .int .i64 xe, .int .i64 xf, .int .i64 xg, .int .i64 xh, .int .i64 xi] := hF 1 (by decide)
    have e2 : u 2 = .pointer (some ⟨b, 0, none⟩) := hF 2 (by decide)
    have e3 : u 3 = .pointer (some ⟨b, 0, none⟩) := hF 3 (by decide)
    have e4 : u 4 = .pointer (some ⟨b, 6, none⟩) := hF 4 (by decide)
    have e5 : u 5 = .slice A5 cs.length c5 := hF 5 (by decide)
    have e6 : u 6 = .pointer (some ⟨b, 0, none⟩) := hF 6 (by decide)
    have e7 : u 7 = .pointer (some ⟨b, 0, none⟩) := hF 7 (by decide)
    have e8 : u 8 = .pointer (some ⟨b, 0, none⟩) := hF 8 (by decide)
    have e9 : u 9 = .int .i64 n1 := hF 9 (by decide)
    obtain ⟨A6, c6, e10, hc6, hR6⟩ : rF Rc ys (u 10) W := hF 10 (by decide)
    simp only [ogMk, Act.put, List.setIfInBounds_toArray, List.set_cons_zero, List.set_cons_succ, Nat.zero_add, Nat.reduceAdd, List.take_succ_cons, List.take_zero, List.drop_succ_cons, List.drop_zero]
    rw [e0, e1, e2, e3, e4, e5, e6, e7, e8, e9, e10]
    clear e0 e1 e2 e3 e4 e5 e6 e7 e8 e9 e10 hF
    have R2 := Lib.hid (R1.out.below hS)
    have S2 := Lib.hid (S1.out.below hS)
    have O2 := Lib.hid (O1.out.trans (Ob.of hS S1.out.lt))
    have C2 := Lib.hid (C1.out.below hS)
    clear hS R1 S1 C1 O1
    go_wp2_with (refine at_fieldSt 33 _ _ b [.int .i64 n1, .int .i64 q, .slice A1 hs.length c1, .slice A2 sw.length c2, .slice A3 kn.length c3, .slice A4 pb.length c4] (.slice A5 cs.length c5) (.slice A6 ys.length c6) [] S2.out sizeRc rfl (ns_sl _ _ _) rfl rfl rfl rfl rfl ?_)
    intro w3 S3 hb3 hk3
    have O3 := Lib.hid (O2.out.trans (Ob.put hb3.out hk3.out))
    have HS3 := Lib.hid (show ∃ r, Sb w3 b (stl ⟨n1, q, hs, sw, kn, pb, ys⟩ r) ∧ Lie w3 ⟨n1, q, hs, sw, kn, pb, ys⟩ r from ⟨⟨A1, c1, A2, c2, A3, c3, A4, c4, A6, c6⟩, S3.out, { R2.out.apart S2.out.bs hk3.out with c := rw_apart mk_A hR6 S2.out.bs hk3.out, cc := hc6 }⟩)
    have C3 := Lib.hid (cm_ob C2.out (Ob.put hb3.out hk3.out) (by have := LT.out; omega))
    rw [HX1.out] at HS3
    clear hb3 hk3 S3 R2 S2 C2 O2 hR6
    have k0 := C3.out.c0
    have k1 := C3.out.c1
    have k2 := C3.out.c2
    have k3 := C3.out.c3
    have k4 := C3.out.c4
    have k5 := C3.out.c5
    have k6 := C3.out.c6
    have k7 := C3.out.c7
    have k8 := C3.out.c8
    dsimp only at k0 k1 k2 k3 k4 k5 k6 k7 k8
    go_wp2_with fail
    obtain ⟨r3, hS, hR⟩ := HS3.out
    refine (HG1.out r3 _ hS hR).mono ?_
    rintro e w4 ⟨rfl, hst, hO⟩
    have HS4 := Lib.hid hst
    have C4 := Lib.hid (cm_ob C3.out hO (by have := LT.out; omega))
    have O4 := Lib.hid (O3.out.trans hO)
    clear hst hS hR hO HS3 C3 O3 k0 k1 k2 k3 k4 k5 k6 k7 k8
    have k0 := C4.out.c0
    have k1 := C4.out.c1
    have k2 := C4.out.c2
    have k3 := C4.out.c3
    have k4 := C4.out.c4
    have k5 := C4.out.c5
    have k6 := C4.out.c6
    have k7 := C4.out.c7
    have k8 := C4.out.c8
    dsimp only at k0 k1 k2 k3 k4 k5 k6 k7 k8
    go_wp2_with fail
    obtain ⟨r4, hS, hR⟩ := HS4.out
    refine (HG2.out r4 _ hS hR).mono ?_
    rintro e w5 ⟨rfl, hst, hO⟩
    have HS5 := Lib.hid hst
    have C5 := Lib.hid (cm_ob C4.out hO (by have := LT.out; omega))
    have O5 := Lib.hid (O4.out.trans hO)
    clear hst hS hR hO HS4 C4 O4 k0 k1 k2 k3 k4 k5 k6 k7 k8
    have k0 := C5.out.c0
    have k1 := C5.out.c1
    have k2 := C5.out.c2
    have k3 := C5.out.c3
    have k4 := C5.out.c4
    have k5 := C5.out.c5
    have k6 := C5.out.c6
    have k7 := C5.out.c7
    have k8 := C5.out.c8
    dsimp only at k0 k1 k2 k3 k4 k5 k6 k7 k8
    go_wp2_with fail
    obtain ⟨r5, hS, hR⟩ := HS5.out
    refine (HG3.out r5 _ hS hR).mono ?_
    rintro e w6 ⟨rfl, hst, hO⟩
    have HS6 := Lib.hid hst
    have C6 := Lib.hid (cm_ob C5.out hO (by have := LT.out; omega))
    have O6 := Lib.hid (O5.out.trans hO)
    clear hst hS hR hO HS5 C5 O5 k0 k1 k2 k3 k4 k5 k6 k7 k8
    have k0 := C6.out.c0
    have k1 := C6.out.c1
    have k2 := C6.out.c2
    have k3 := C6.out.c3
    have k4 := C6.out.c4
    have k5 := C6.out.c5
    have k6 := C6.out.c6
    have k7 := C6.out.c7
    have k8 := C6.out.c8
    dsimp only at k0 k1 k2 k3 k4 k5 k6 k7 k8
    go_wp2_with fail
    obtain ⟨r6, hS, hR⟩ := HS6.out
    refine (HG4.out r6 _ hS hR).mono ?_
    rintro e w7 ⟨⟨A, cap, rfl, hcap, hrow⟩, hst, hO⟩
    have HH := Lib.hid (And.intro hcap (And.intro hrow (And.intro hst (O6.out.trans hO))))
    clear hcap hrow hst hO hS hR k0 k1 k2 k3 k4 k5 k6 k7 k8
    go_wp2_with fail
    go_ret
    rw [HQ.out]
    exact ⟨⟨A, cap, rfl, HH.out.1, HH.out.2.1⟩, HH.out.2.2.1, O0.out.trans HH.out.2.2.2⟩
end Go.Proofs.YtilneflfeegnfaaGreat
namespace Go.Proofs.YtilneflfeegnfaaGreat
open Go.RowKit
theorem Ob.setCell {b : Nat} {w w' : World} (h : Ob b w w') {a : Addr} (ha : w.heap.size ≤ a.block) (hb : b < w.heap.size) (v : Value) : Ob b w (w'.setCell a v) :=
  ⟨h.bel.setCell (by omega) v, fun k h1 h2 => (Below.heap_setCell w' a v k (by omega)).trans (h.oth k h1 h2)⟩
theorem cloneS_sF (A : Option Addr) (xs : List Sn.Sg) (c : Nat) (w : World) (h : Rw Sn.eS w A xs) (hn : xs.length ≤ 1000000) (hc : xs.length ≤ c) : Calls Tryz.prog 53 #[.slice A xs.length c] w (Sn.SPost w xs) := (Sn.cloneS_any A xs c w h hn hc).mono fun _ _ k => Sn.OwnPost.s k (by omega)
set_option maxRecDepth 100000 in
set_option maxHeartbeats 8000000 in
theorem copied_any (x : Stt) (r : Rws) (w : World) (h : Lie w x r) (hz : Sz x) : Calls Tryz.prog 26 #[stv x r] w (StPost w x) := by
  have HBD := Lib.hid hz.k
  have z1 := hz.h
  have z2 := hz.s
  have z4 := hz.p
  have z5 := hz.c
  have z3 := hz.k.1
  have R := Lib.hid h
  obtain ⟨n, q, hs, sw, kn, pb, cs⟩ := x
  obtain ⟨A1, c1, A2, c2, A3, c3, A4, c4, A5, c5⟩ := r
  have HB0 := Lib.hid (show Below w.heap.size w ((w.alloc (Stx ⟨n, q, hs, sw, kn, pb, cs⟩ ⟨A1, c1, A2, c2, A3, c3, A4, c4, A5, c5⟩)).alloc (Stx zst zrw)) from ((Below.refl _ w).alloc (Nat.le_refl _) _).alloc (by simp) _)
  have S0 := Lib.hid ((sb_box w ⟨n, q, hs, sw, kn, pb, cs⟩ ⟨A1, c1, A2, c2, A3, c3, A4, c4, A5, c5⟩).below ((Below.refl _ _).alloc (Nat.le_refl _) (Stx zst zrw)))
  have Z0 := Lib.hid (sb_box (w.alloc (Stx ⟨n, q, hs, sw, kn, pb, cs⟩ ⟨A1, c1, A2, c2, A3, c3, A4, c4, A5, c5⟩)) zst zrw)
  have R0 := Lib.hid (R.out.below HB0.out)
  have e1 : (w.alloc (Stx ⟨n, q, hs, sw, kn, pb, cs⟩ ⟨A1, c1, A2, c2, A3, c3, A4, c4, A5, c5⟩)).heap.size = w.heap.size + 1 := by simp
  rw [e1] at Z0
  simp only [stv]
  dsimp only at z1 z2 z3 z4 z5 HBD
  simp only [Stx, stl, zst, zrw, List.length_nil] at HB0 S0 Z0 R0
  have kk := S0.out.cx.key 2 _ rfl
  (try dsimp only at kk)
  clear h e1 hz R
  go_enter Tryz.func26, Tryz.ntmps26
  go_wp2_with fail
  change Calls _ _ _ ((w.alloc (.cells #[.int .i64 n, .int .i64 q, .slice A1 hs.length c1, .slice A2 sw.length c2, .slice A3 kn.length c3, .slice A4 pb.length c4, .slice A5 cs.length c5] 35)).alloc (.cells #[.int .i64 0, .int .i64 0, .slice none 0 0, .slice none 0 0, .slice none 0 0, .slice none 0 0, .slice none 0 0] 35)) _
  generalize (w.alloc (.cells #[.int .i64 n, .int .i64 q, .slice A1 hs.length c1, .slice A2 sw.length c2, .slice A3 kn.length c3, .slice A4 pb.length c4, .slice A5 cs.length c5] 35)).alloc (.cells #[.int .i64 0, .int .i64 0, .slice none 0 0, .slice none 0 0, .slice none 0 0, .slice none 0 0, .slice none 0 0] 35) = W0 at *
  refine (cloneH A1 hs c1 _ R0.out.h (by omega) R0.out.hc).mono ?_
  rintro e v1 ⟨D1, e1, rfl, hd1, hr, hb⟩
  have R1' := Lib.hid (R0.out.below hb)
  have S1' := Lib.hid (S0.out.below hb)
  have Z1' := Lib.hid (Z0.out.below hb)
  have B1' := Lib.hid (bthen HB0.out hb HB0.out.size)
  have hr1 := Lib.hid hr
  clear kk hb hr R0 S0 Z0 HB0
  go_wp2_with (refine at_fieldSt 29 _ _ w.heap.size [.int .i64 n, .int .i64 q] (.slice A1 hs.length c1) (.slice D1 hs.length e1) [.slice A2 sw.length c2, .slice A3 kn.length c3, .slice A4 pb.length c4, .slice A5 cs.length c5] S1'.out sizeRh rfl (ns_sl _ _ _) rfl rfl rfl rfl rfl ?_)
  intro w1 S1 hb1 hk1
  have R1 := Lib.hid (R1'.out.apart S1'.out.bs hk1.out)
  have Z1 := Lib.hid (Z1'.out.other hk1.out (by omega))
  have HB1 := Lib.hid (B1'.out.trans (hb1.out _ (Nat.le_refl _)))
  have hr1 := Lib.hid (hs_apart hr1.out S1'.out.bs hk1.out)
  clear hb1 hk1 R1' S1' Z1' B1'
  have kk := S1.out.cx.key 3 _ rfl
  (try dsimp only at kk)
  go_wp2_with fail
  refine (cloneW A2 sw c2 _ R1.out.s (by omega) R1.out.sc).mono ?_
  rintro e v2 ⟨D2, e2, rfl, hd2, hr, hb⟩
  have R2' := Lib.hid (R1.out.below hb)
  have S2' := Lib.hid (S1.out.below hb)
  have Z2' := Lib.hid (Z1.out.below hb)
  have B2' := Lib.hid (bthen HB1.out hb HB1.out.size)
  have hr2 := Lib.hid hr
  have hr1 := Lib.hid (hld_h _ _ _ _ hr1.out hb)
  clear kk hb hr R1 S1 Z1 HB1
  go_wp2_with (refine at_fieldSt 30 _ _ w.heap.size [.int .i64 n, .int .i64 q, .slice D1 hs.length e1] (.slice A2 sw.length c2) (.slice D2 sw.length e2) [.slice A3 kn.length c3, .slice A4 pb.length c4, .slice A5 cs.length c5] S2'.out sizeRs rfl (ns_sl _ _ _) rfl rfl rfl rfl rfl ?_)
  intro w2 S2 hb2 hk2
  have R2 := Lib.hid (R2'.out.apart S2'.out.bs hk2.out)
  have Z2 := Lib.hid (Z2'.out.other hk2.out (by omega))
  have HB2 := Lib.hid (B2'.out.trans (hb2.out _ (Nat.le_refl _)))
  have hr2 := Lib.hid (rw_apart mk_W hr2.out S2'.out.bs hk2.out)
  have hr1 := Lib.hid (hs_apart hr1.out S2'.out.bs hk2.out)
  clear hb2 hk2 R2' S2' Z2' B2'
  obtain ⟨xs, hxp, hK⟩ := R2.out.k
  dsimp only at hxp hK
  have hxl : xs.length = kn.length := by rw [← hxp, List.length_map]
  have HC := Lib.hid (Sn.cloneK_any A3 xs c3 w2 hK.1 (by omega) (by have := R2.out.kc; dsimp only at this; omega))
  rw [hxl] at HC
  have HXP := Lib.hid hxp
  have HKI := Lib.hid hK.2
  obtain ⟨L, hL⟩ : ∃ L, kn.length = L := ⟨_, rfl⟩
  have HL := Lib.hid hL
  have HXL := Lib.hid (hxl.trans hL)
  rw [hL] at z3 HC S2
  clear hL hxl hxp hK
  have kk := S2.out.cx.key 4 _ rfl
  (try dsimp only at kk)
  go_wp2_with fail
  refine HC.out.mono ?_
  rintro e v3 ⟨vv, rfl, ho, hb⟩
  obtain ⟨D3, e3, rfl, hlc, hmc, -, -, -⟩ := own_rw (E := Sn.eK) ho (by rw [HXL.out]; omega)
  rw [HXL.out] at hlc ho ⊢
  have O3' := Ob.of hb S2.out.lt
  have S3' := Lib.hid (S2.out.below hb)
  have LB := Lib.hid (show w.heap.size < w2.heap.size from S2.out.lt)
  have HIN3 := fun y hy => (HKI.out y hy).below hb
  have HMC := Lib.hid hmc
  have HLC := Lib.hid hlc
  clear kk hmc
  go_wp2_with (refine at_fieldSt 31 _ _ w.heap.size [.int .i64 n, .int .i64 q, .slice D1 hs.length e1, .slice D2 sw.length e2] (.slice A3 L c3) (.slice D3 L e3) [.slice A4 pb.length c4, .slice A5 cs.length c5] S3'.out sizeRk rfl (ns_sl _ _ _) rfl rfl rfl rfl rfl ?_)
  intro w3 S3 hb3 hk3
  have P3 := Ob.put hb3.out hk3.out
  have OB3 := Lib.hid (O3'.trans P3)
  have HR := Lib.hid (show ∃ ys, ys.map Sn.Kn.p = kn ∧ w3.ownsRow w2.heap.size 66 2 (.slice D3 L e3) L (Sn.eK.cs ys) ∧ (∀ y ∈ ys, y.In w3) from
    ⟨xs, HXP.out, own_ob ho P3 LB.out, fun y hy => ⟨(HIN3 y hy).a0, (HIN3 y hy).a1, rw_apart mk_S (HIN3 y hy).lies S3'.out.bs hk3.out, (HIN3 y hy).le, (HIN3 y hy).max⟩⟩)
  clear hb3 hk3 P3 HIN3 ho O3' S3' HC HKI hlc hb
  have kk := S3.out.cx.key 4 _ rfl
  (try dsimp only at kk)
  go_wp2_with fail
  go_loopw [20] (fun i wr => ∃ k : Nat, i = .int .i64 k ∧ k ≤ L ∧ Hid (∃ ys, ys.map Sn.Kn.p = kn ∧ wr.ownsRow w2.heap.size 66 2 (.slice D3 L e3) L (Sn.eK.cs ys) ∧ (∀ y ∈ ys, y.In wr) ∧ Ob w.heap.size w2 wr ∧ Below w2.heap.size w3 wr)) (fun i _ => L - (intOf i).toNat)
  case atStart => exact ⟨0, rfl, by omega, Lib.hid (by obtain ⟨ys, h1, h2, h3⟩ := HR.out; exact ⟨ys, h1, h2, h3, OB3.out, Below.refl _ _⟩)⟩
  case round =>
    obtain ⟨k, rfl, hk, HH⟩ := hrel
    clear HR kk
    by_cases hlt : k < L
    · obtain ⟨ys, h1, h2, h3, h4, h5⟩ := HH.out
      obtain ⟨g, cap', hv, hg1, hg2⟩ := h2.form (by omega)
      obtain ⟨rfl, rfl⟩ : D3 = some ⟨g, 0, none⟩ ∧ e3 = cap' := by simpa using hv
      have hyl : ys.length = L := by rw [← HL.out, ← h1, List.length_map]
      obtain ⟨y, hy⟩ : ∃ y, ys[k]? = some y := ⟨_, List.getElem?_eq_getElem (by omega)⟩
      obtain ⟨A9, c9, hv9, -, -, -, hr9, -⟩ := own_rw (E := Sn.eK) h2 (by omega)
      obtain ⟨rfl, -, rfl⟩ : some ⟨g, 0, none⟩ = A9 ∧ L = ys.length ∧ e3 = c9 := by simpa using hv9
      have hat : ∀ j v, (Sn.kl y)[j]? = some v → wr.cell? ((⟨g, k * 2, none⟩ : Addr).add j) = some v := fun j v hv => by
        have := hr9.at hy j v hv
        rwa [show ((⟨g, 0, none⟩ : Addr).add (k * Sn.eK.N)) = ⟨g, k * 2, none⟩ by rw [Addr.add_mid, Nat.zero_add]; rfl] at this
      have hym := h3 y (List.mem_of_getElem? hy)
      have hyb : y.ss.length ≤ 1000 := HBD.out.2 y.p (by rw [← h1]; exact List.mem_map_of_mem (List.mem_of_getElem? hy))
      have BZ := Lib.hid (show Below wr.heap.size wr (wr.alloc (.cells #[.int .u32 y.a, .slice y.P y.ss.length y.c] 66)) from (Below.refl _ _).alloc (Nat.le_refl _) _)
      have zz : (wr.alloc (.cells #[.int .u32 y.a, .slice y.P y.ss.length y.c] 66)).cell? ⟨wr.heap.size, 1, none⟩ = some (.slice y.P y.ss.length y.c) := by simp
      have zl : wr.heap.size < (wr.alloc (.cells #[.int .u32 y.a, .slice y.P y.ss.length y.c] 66)).heap.size := by simp
      have ZB := Lib.hid fun W (hS : Below (wr.alloc (.cells #[.int .u32 y.a, .slice y.P y.ss.length y.c] 66)).heap.size (wr.alloc (.cells #[.int .u32 y.a, .slice y.P y.ss.length y.c] 66)) W) => (hS.cell (p := ⟨wr.heap.size, 1, none⟩) zl).trans zz
      have HIN := Lib.hid (hym.below BZ.out)
      have HCL := Lib.hid fun W (hW : y.In W) => cloneS_sF y.P y.ss y.c W hW.lies (by omega) hW.le
      have H9 := Lib.hid (show ys.map Sn.Kn.p = kn ∧ (wr.alloc (.cells #[.int .u32 y.a, .slice y.P y.ss.length y.c] 66)).ownsRow w2.heap.size 66 2 (.slice (some ⟨g, 0, none⟩) L e3) L (Sn.eK.cs ys) ∧ (∀ y0 ∈ ys, y0.In (wr.alloc (.cells #[.int .u32 y.a, .slice y.P y.ss.length y.c] 66))) ∧ Ob w.heap.size w2 (wr.alloc (.cells #[.int .u32 y.a, .slice y.P y.ss.length y.c] 66)) ∧ Below w2.heap.size w3 (wr.alloc (.cells #[.int .u32 y.a, .slice y.P y.ss.length y.c] 66)) from
        ⟨h1, own_keep h2 BZ.out, fun y' hy' => (h3 y' hy').below BZ.out, h4.trans (Ob.of BZ.out (Nat.lt_of_lt_of_le LB.out h4.size)), h5.trans (BZ.out.mono h4.size)⟩)
      have HY := Lib.hid hy
      have S9 := Lib.hid (S3.out.keep H9.out.2.2.2.2 LB.out)
      have HG := Lib.hid (show w2.heap.size ≤ g ∧ g < (wr.alloc (.cells #[.int .u32 y.a, .slice y.P y.ss.length y.c] 66)).heap.size from ⟨hg1, by have := hg2; simp; omega⟩)
      clear HH h1 h2 h3 h4 h5 hv hyl hy hym hyb zz zl hv9 hr9
      go_wp2_with (refine Sn.at_load53 (.tmp 23) rfl rfl (⟨g, k * 2, none⟩ : Addr) y rfl hat ?_)
      change (Code.region _ _ _).wp _ _ _ (wr.alloc (.cells #[.int .u32 y.a, .slice y.P y.ss.length y.c] 66))
      generalize wr.alloc (.cells #[.int .u32 y.a, .slice y.P y.ss.length y.c] 66) = w5 at *
      refine wp_region_below_tail 6 [fx (.pointer (some ⟨w.heap.size, 4, none⟩)), fx (.slice (some ⟨g, 0, none⟩) L e3), fx (.int .i64 (k : Int)), fx (.pointer (some ⟨wr.heap.size, 1, none⟩)), fx (.slice y.P y.ss.length y.c), Sn.sF y.ss]
        (by kernel_rfl) (by simp) (by kernel_rfl) (by kernel_rfl) (by kernel_rfl) ?_ ?_ ?_
      · simp only [List.mem_cons, List.not_mem_nil, or_false]
        rintro φ (rfl | rfl | rfl | rfl | rfl | rfl)
        all_goals first | exact stable_fx _ | exact stable_rF hld_h _ | exact stable_rF hld_s _ | exact stable_rF hld_k _ | exact stable_rF hld_p _ | exact stable_rF hld_c _ | exact stable_tF hld_h _ _ | exact stable_tF hld_s _ _ | exact stable_tF hld_k _ _ | exact stable_tF hld_p _ _ | exact stable_tF hld_c _ _ | exact Sn.stable_sF _
      · refine OgSteps.cons ?_ (OgSteps.cons ?_ (OgSteps.cons ?_ (OgSteps.cons ?_ (OgSteps.cons ?_ (OgSteps.cons ?_ (OgSteps.nil))))))
        · refine OgStep.pure ?_ ?_
          · rfl
          intro u W hS hp
          refine ⟨.pointer (some ⟨w.heap.size, 4, none⟩), ?_, rfl⟩
          simp only [ogMk, Act.put, List.setIfInBounds_toArray, List.set_cons_zero, List.set_cons_succ, Nat.zero_add, Nat.reduceAdd, List.take_succ_cons, List.take_zero, List.drop_succ_cons, List.drop_zero]
          simp [execOp, Act.eval, go_sem]
        · refine OgStep.pure ?_ ?_
          · rfl
          intro u W hS hp
          have h0 : u 0 = .pointer (some ⟨w.heap.size, 4, none⟩) := hp ⟨0, .data⟩ (by simp) rfl
          have k4 := (S9.out.below hS).cx.key 4 _ rfl
          (try dsimp only at k4)
          refine ⟨.slice (some ⟨g, 0, none⟩) L e3, ?_, rfl⟩
          simp only [ogMk, Act.put, List.setIfInBounds_toArray, List.set_cons_zero, List.set_cons_succ, Nat.zero_add, Nat.reduceAdd, List.take_succ_cons, List.take_zero, List.drop_succ_cons, List.drop_zero]
          simp [execOp, Act.eval, go_sem, h0, k4]
        · refine OgStep.pure ?_ ?_
          · rfl
          intro u W hS hp
          refine ⟨.int .i64 (k : Int), ?_, rfl⟩
          simp only [ogMk, Act.put, List.setIfInBounds_toArray, List.set_cons_zero, List.set_cons_succ, Nat.zero_add, Nat.reduceAdd, List.take_succ_cons, List.take_zero, List.drop_succ_cons, List.drop_zero]
          simp [execOp, Act.eval, go_sem]
        · refine OgStep.pure ?_ ?_
          · rfl
          intro u W hS hp
          refine ⟨.pointer (some ⟨wr.heap.size, 1, none⟩), ?_, rfl⟩
          simp only [ogMk, Act.put, List.setIfInBounds_toArray, List.set_cons_zero, List.set_cons_succ, Nat.zero_add, Nat.reduceAdd, List.take_succ_cons, List.take_zero, List.drop_succ_cons, List.drop_zero]
          simp [execOp, Act.eval, go_sem]
        · refine OgStep.pure ?_ ?_
          · rfl
          intro u W hS hp
          have h3 : u 3 = .pointer (some ⟨wr.heap.size, 1, none⟩) := hp ⟨3, .data⟩ (by simp) rfl
          have z1 := ZB.out W hS
          refine ⟨.slice y.P y.ss.length y.c, ?_, rfl⟩
          simp only [ogMk, Act.put, List.setIfInBounds_toArray, List.set_cons_zero, List.set_cons_succ, Nat.zero_add, Nat.reduceAdd, List.take_succ_cons, List.take_zero, List.drop_succ_cons, List.drop_zero]
          simp [execOp, Act.eval, go_sem, h3, z1]
        · refine OgStep.calls ?_ ?_
          · rfl
          intro u W hS hp
          have h4 : u 4 = .slice y.P y.ss.length y.c := hp ⟨4, .data⟩ (by simp) rfl
          refine ⟨53, #[.slice y.P y.ss.length y.c], ?_, Sn.calls_sF (HCL.out W (HIN.out.below hS)) rfl⟩
          simp only [ogMk, Act.put, List.setIfInBounds_toArray, List.set_cons_zero, List.set_cons_succ, Nat.zero_add, Nat.reduceAdd, List.take_succ_cons, List.take_zero, List.drop_succ_cons, List.drop_zero]
          simp [execOp, Act.eval, go_sem, h4]
      · intro u W hS hF
        have e0 : u 0 = .pointer (some ⟨w.heap.size, 4, none⟩) := hF 0 (by decide)
        have e1 : u 1 = .slice (some ⟨g, 0, none⟩) L e3 := hF 1 (by decide)
        have e2 : u 2 = .int .i64 (k : Int) := hF 2 (by decide)
        have e3 : u 3 = .pointer (some ⟨wr.heap.size, 1, none⟩) := hF 3 (by decide)
        have e4 : u 4 = .slice y.P y.ss.length y.c := hF 4 (by decide)
        obtain ⟨A2', c2', e5, hlc2, hr2'⟩ : Sn.sF y.ss (u 5) W := hF 5 (by decide)
        simp only [ogMk, Act.put, List.setIfInBounds_toArray, List.set_cons_zero, List.set_cons_succ, Nat.zero_add, Nat.reduceAdd, List.take_succ_cons, List.take_zero, List.drop_succ_cons, List.drop_zero]
        rw [e0, e1, e2, e3, e4, e5]
        clear e0 e1 e2 e3 e4 e5 hF
        obtain ⟨h1, h2, h3, h4, h5⟩ := H9.out
        have hy := HY.out
        have c0 : w5.cell? ⟨g, k * 2 + 1, none⟩ = some (.slice y.P y.ss.length y.c) := by
          have := h2.cells (g := g) rfl _ _ (Sn.cs_slice hy)
          rwa [Addr.add_mid, Nat.zero_add] at this
        have d0 : W.cell? ⟨g, k * 2 + 1, none⟩ = some (.slice y.P y.ss.length y.c) := by rw [hS.cell (p := ⟨g, k * 2 + 1, none⟩) HG.out.2]; exact c0
        have d1 : W.frozen? ⟨g, k * 2 + 1, none⟩ = false := by rw [hS.frozen (p := ⟨g, k * 2 + 1, none⟩) HG.out.2]; exact h2.frozenAt _
        have hz : (⟨y.a, A2', c2', y.ss⟩ : Sn.Kn).In W := ⟨(h3 y (List.mem_of_getElem? hy)).a0, (h3 y (List.mem_of_getElem? hy)).a1, hr2'.2, hlc2, hr2'.1⟩
        have HN := Lib.hid (show ∃ zs, zs.map Sn.Kn.p = kn ∧ (W.setCell ⟨g, k * 2 + 1, none⟩ (.slice A2' y.ss.length c2')).ownsRow w2.heap.size 66 2 (.slice (some ⟨g, 0, none⟩) L e3) L (Sn.eK.cs zs) ∧ (∀ z ∈ zs, z.In (W.setCell ⟨g, k * 2 + 1, none⟩ (.slice A2' y.ss.length c2'))) ∧ Ob w.heap.size w2 (W.setCell ⟨g, k * 2 + 1, none⟩ (.slice A2' y.ss.length c2')) ∧ Below w2.heap.size w3 (W.setCell ⟨g, k * 2 + 1, none⟩ (.slice A2' y.ss.length c2')) from by
          refine ⟨ys.set k ⟨y.a, A2', c2', y.ss⟩, ?_, ?_, ?_, ?_, ?_⟩
          · rw [Sn.map_set (z := ⟨y.a, A2', c2', y.ss⟩) hy rfl, h1]
          · rw [Sn.cs_set (z := ⟨y.a, A2', c2', y.ss⟩) hy rfl]
            exact ((own_keep h2 hS).stored _ _).1
          · intro z hz'
            rcases List.mem_or_eq_of_mem_set hz' with hz' | rfl
            · exact Sn.kn_stored ((h3 z hz').below hS) d0 _
            · exact Sn.kn_stored hz d0 _
          · exact (h4.trans (Ob.of hS (Nat.lt_of_lt_of_le LB.out h4.size))).setCell HG.out.1 LB.out _
          · exact (h5.trans (hS.mono h4.size)).setCell HG.out.1 _)
        clear hS h1 h2 h3 h4 h5 hy hz hr2' c0 H9
        go_wp2_with fail
        go_roundw
        case rel => exact ⟨k + 1, by go_num, by omega, HN⟩
        case measure => simp [intOf]; omega
    · obtain rfl : k = L := by omega
      obtain ⟨ys, h1, h2, h3, h4, h5⟩ := HH.out
      have hyl : ys.length = k := by rw [← HL.out, ← h1, List.length_map]
      obtain ⟨A9, c9, he, -, -, -, hr9, -⟩ := own_rw (E := Sn.eK) h2 (by omega)
      obtain ⟨rfl, -, rfl⟩ : D3 = A9 ∧ k = ys.length ∧ e3 = c9 := by simpa using he
      have hr3 := Lib.hid (show Sn.Ks wr D3 kn from ⟨ys, h1, hr9, h3⟩)
      have R3 := Lib.hid (R2.out.ob S2.out.bs h4)
      have hr1 := Lib.hid (hs_ob hr1.out S2.out.bs h4)
      have hr2 := Lib.hid (rw_ob mk_W hr2.out S2.out.bs h4)
      have S3 := Lib.hid (S3.out.keep h5 LB.out)
      have Z3 := Lib.hid (Z2.out.ob h4 (by omega))
      have HB3 := Lib.hid (HB2.out.trans h4.bel)
      clear HH h1 h2 h3 h4 h5 he hr9 hyl R2 S2 Z2 HB2
      have kk := S3.out.cx.key 5 _ rfl
      (try dsimp only at kk)
      go_wp2_with fail
      refine (cloneP A4 pb c4 _ R3.out.p (by omega) R3.out.pc).mono ?_
      rintro e v4 ⟨D4, e4, rfl, hd4, hr, hb⟩
      have R4' := Lib.hid (R3.out.below hb)
      have S4' := Lib.hid (S3.out.below hb)
      have Z4' := Lib.hid (Z3.out.below hb)
      have B4' := Lib.hid (bthen HB3.out hb HB3.out.size)
      have hr4 := Lib.hid hr
      have hr1 := Lib.hid (hld_h _ _ _ _ hr1.out hb)
      have hr2 := Lib.hid (hld_s _ _ _ _ hr2.out hb)
      have hr3 := Lib.hid (hld_k _ _ _ _ hr3.out hb)
      clear kk hb hr R3 S3 Z3 HB3
      go_wp2_with (refine at_fieldSt 32 _ _ w.heap.size [.int .i64 n, .int .i64 q, .slice D1 hs.length e1, .slice D2 sw.length e2, .slice D3 k e3] (.slice A4 pb.length c4) (.slice D4 pb.length e4) [.slice A5 cs.length c5] S4'.out sizeRp rfl (ns_sl _ _ _) rfl rfl rfl rfl rfl ?_)
      intro w4 S4 hb4 hk4
      have R4 := Lib.hid (R4'.out.apart S4'.out.bs hk4.out)
      have Z4 := Lib.hid (Z4'.out.other hk4.out (by omega))
      have HB4 := Lib.hid (B4'.out.trans (hb4.out _ (Nat.le_refl _)))
      have hr4 := Lib.hid (rw_apart mk_P hr4.out S4'.out.bs hk4.out)
      have hr1 := Lib.hid (hs_apart hr1.out S4'.out.bs hk4.out)
      have hr2 := Lib.hid (rw_apart mk_W hr2.out S4'.out.bs hk4.out)
      have hr3 := Lib.hid (ks_apart hr3.out S4'.out.bs hk4.out)
      clear hb4 hk4 R4' S4' Z4' B4'
      have kk := S4.out.cx.key 6 _ rfl
      (try dsimp only at kk)
      go_wp2_with fail
      refine (cloneC A5 cs c5 _ R4.out.c (by omega) R4.out.cc).mono ?_
      rintro e v5 ⟨D5, e5, rfl, hd5, hr, hb⟩
      have R5' := Lib.hid (R4.out.below hb)
      have S5' := Lib.hid (S4.out.below hb)
      have Z5' := Lib.hid (Z4.out.below hb)
      have B5' := Lib.hid (bthen HB4.out hb HB4.out.size)
      have hr5 := Lib.hid hr
      have hr1 := Lib.hid (hld_h _ _ _ _ hr1.out hb)
      have hr2 := Lib.hid (hld_s _ _ _ _ hr2.out hb)
      have hr3 := Lib.hid (hld_k _ _ _ _ hr3.out hb)
      have hr4 := Lib.hid (hld_p _ _ _ _ hr4.out hb)
      clear kk hb hr R4 S4 Z4 HB4
      go_wp2_with (refine at_fieldSt 33 _ _ w.heap.size [.int .i64 n, .int .i64 q, .slice D1 hs.length e1, .slice D2 sw.length e2, .slice D3 k e3, .slice D4 pb.length e4] (.slice A5 cs.length c5) (.slice D5 cs.length e5) [] S5'.out sizeRc rfl (ns_sl _ _ _) rfl rfl rfl rfl rfl ?_)
      intro w5 S5 hb5 hk5
      have R5 := Lib.hid (R5'.out.apart S5'.out.bs hk5.out)
      have Z5 := Lib.hid (Z5'.out.other hk5.out (by omega))
      have HB5 := Lib.hid (B5'.out.trans (hb5.out _ (Nat.le_refl _)))
      have hr5 := Lib.hid (rw_apart mk_A hr5.out S5'.out.bs hk5.out)
      have hr1 := Lib.hid (hs_apart hr1.out S5'.out.bs hk5.out)
      have hr2 := Lib.hid (rw_apart mk_W hr2.out S5'.out.bs hk5.out)
      have hr3 := Lib.hid (ks_apart hr3.out S5'.out.bs hk5.out)
      have hr4 := Lib.hid (rw_apart mk_P hr4.out S5'.out.bs hk5.out)
      clear hb5 hk5 R5' S5' Z5' B5'
      have S5 := Lib.hid (show Sb w5 w.heap.size (stl ⟨n, q, hs, sw, kn, pb, cs⟩ ⟨D1, e1, D2, e2, D3, e3, D4, e4, D5, e5⟩) from by have := S5.out; rw [← HL.out] at this; exact this)
      go_wp2_with (first | (refine at_loadSt _ w.heap.size _ S5.out.cx rfl rfl rfl rfl ?_) | (refine at_wholeSt _ _ (w.heap.size + 1) _ (stl ⟨n, q, hs, sw, kn, pb, cs⟩ ⟨D1, e1, D2, e2, D3, e3, D4, e4, D5, e5⟩) Z5.out rfl (stl_ns _ _) (stl_one _ _) rfl rfl rfl rfl ?_))
      intro w6 Z6 hb6 hk6
      go_wp2_with fail
      refine bodyPost_ret (results_cell rfl _ _ _ _ rfl (loadvSt Z6.out.cx rfl)) rfl ?_
      exact ⟨⟨D1, e1, D2, e2, D3, e3, D4, e4, D5, e5⟩, rfl, ⟨hs_apart hr1.out Z5.out.bs hk6.out, hd1, rw_apart mk_W hr2.out Z5.out.bs hk6.out, hd2, ks_apart hr3.out Z5.out.bs hk6.out, by have := HLC.out; rw [← HL.out] at this; exact this, rw_apart mk_P hr4.out Z5.out.bs hk6.out, hd4, rw_apart mk_A hr5.out Z5.out.bs hk6.out, hd5⟩, HB5.out.trans (hb6.out _ (by omega))⟩
end Go.Proofs.YtilneflfeegnfaaGreat
namespace Go.Proofs.YtilneflfeegnfaaGreat
open Go.RowKit
theorem idx_take {p : Pb.Pr → Bool} {xs : List Pb.Pr} {k : Nat} {x : Pb.Pr} (h : (xs.take k).findIdx? p = none) (hx : xs[k]? = some x) : (p x = false → (xs.take (k + 1)).findIdx? p = none) ∧ (p x = true → xs.findIdx? p = some k) := by
  rw [List.findIdx?_eq_none_iff] at h
  refine ⟨fun hp => ?_, fun hp => ?_⟩
  · rw [List.findIdx?_eq_none_iff]
    intro y hy
    rw [List.take_add_one, hx] at hy
    rcases List.mem_append.1 hy with hy | hy
    · exact h y hy
    · obtain rfl : y = x := by simpa using hy
      exact hp
  · obtain ⟨hk, rfl⟩ := List.getElem?_eq_some_iff.1 hx
    rw [List.findIdx?_eq_some_iff_getElem]
    refine ⟨hk, hp, fun j hj => ?_⟩
    have := h xs[j] (by rw [List.mem_take_iff_getElem]; exact ⟨j, by omega, rfl⟩)
    rw [this]; simp
set_option maxRecDepth 100000 in
set_option maxHeartbeats 4000000 in
theorem index_any (p : Pb.Pr → Bool) (g : FuncId) (es : Array Value) (hge : ∀ args W, (callFunc g args).run Tryz.prog W = .ok (.enter g args) W) (A : Option Addr) (xs : List Pb.Pr) (cap : Nat) (w : World) (h : Rw Pb.eP w A xs)
    (hw : ∀ x ∈ xs, ∀ W, Below w.heap.size w W → Calls Tryz.prog g (#[Pb.prv x] ++ es) W fun e w' => e = .returned (.bool (p x)) ∧ Below W.heap.size W w') :
    Calls Tryz.prog 125 #[.slice A xs.length cap, .func (.func g) #[] es] w fun e w' => e = .returned (.int .i64 (Cs.fnI (xs.findIdx? p))) ∧ Below w.heap.size w w' := by
  have hln := h.1
  have R := Lib.hid h
  have HGE := Lib.hid hge
  have HW := Lib.hid hw
  clear h hge hw
  obtain ⟨L, hL⟩ : ∃ L, xs.length = L := ⟨_, rfl⟩
  have HL := Lib.hid hL
  rw [hL] at hln ⊢
  clear hL
  go_enter Tryz.func125, Tryz.ntmps125
  go_wp2_with fail
  go_loopw [8] (fun i wr => ∃ k : Nat, i = .int .i64 k ∧ k ≤ L ∧ Hid (Below w.heap.size w wr ∧ (xs.take k).findIdx? p = none)) (fun i _ => L - (intOf i).toNat)
  case atStart => exact ⟨0, rfl, by omega, Lib.hid ⟨Below.refl _ _, by simp⟩⟩
  case round =>
    obtain ⟨k, rfl, hk, HH⟩ := hrel
    by_cases hkL : k < L
    · obtain ⟨x, hx⟩ : ∃ x, xs[k]? = some x := ⟨_, List.getElem?_eq_getElem (by rw [HL.out]; exact hkL)⟩
      obtain ⟨y, rfl⟩ := rw_some R.out (by rw [HL.out]; omega)
      have hat := (R.out.below HH.out.1).at hx
      have HT := Lib.hid (idx_take HH.out.2 hx)
      have HWX := HW.out x (List.mem_of_getElem? hx) wr HH.out.1
      obtain ⟨bb, hbb⟩ : ∃ bb, p x = bb := ⟨_, rfl⟩
      rw [hbb] at HWX HT
      simp only [Pb.prv] at HWX
      have HWX := Lib.hid HWX
      clear hx hbb
      go_wp2_with (refine Pb.at_load37 (.tmp 14) rfl rfl (y.add (k * 5)) x rfl hat ?_)
      rw [HGE.out, Oper.upon_enter]
      refine HWX.out.mono ?_
      rintro e w2 ⟨rfl, hb⟩
      have B2 := Lib.hid (HH.out.1.trans (hb.mono HH.out.1.size))
      clear hb hat
      cases bb
      · go_wp2_with fail
        go_roundw
        case rel => exact ⟨k + 1, by go_num, by omega, Lib.hid ⟨B2.out, HT.out.1 (by simp)⟩⟩
        case measure => simp [intOf]; omega
      · go_wp2_with fail
        go_ret
        exact ⟨ret_int (by rw [HT.out.2 (by simp)]; rfl), B2.out⟩
    · obtain rfl : k = L := by omega
      have hn := HH.out.2
      rw [List.take_of_length_le (by rw [HL.out]; exact Nat.le_refl _)] at hn
      have HN := Lib.hid hn
      clear hn
      go_wp2_with fail
      go_ret
      exact ⟨ret_int (by rw [HN.out]; rfl), HH.out.1⟩
set_option maxRecDepth 100000 in
set_option maxHeartbeats 4000000 in
theorem ans1_any (x : Pb.Pr) (a : Int) (g : Nat) (w : World) (hg : w.cell? ⟨g, 0, none⟩ = some (.int .u32 a)) :
    Calls Tryz.prog 126 #[Pb.prv x, .pointer (some ⟨g, 0, none⟩)] w fun e w' => e = .returned (.bool (x.a == a)) ∧ Below w.heap.size w w' := by
  have hgl := World.block_lt_of_cell? _ _ hg
  have B0 := Lib.hid (show Below w.heap.size w (w.alloc (Pb.Prx x)) from (Below.refl _ w).alloc (Nat.le_refl _) _)
  have k0 : (w.alloc (Pb.Prx x)).cell? ⟨g, 0, none⟩ = some (.int .u32 a) := by rw [B0.out.cell (p := ⟨g, 0, none⟩) hgl]; exact hg
  obtain ⟨z, zi, zs, zt, zn⟩ := x
  unfold Pb.Prx at *
  simp only [Pb.prv]
  clear hg
  go_enter Tryz.func126, Tryz.ntmps126
  go_wp2_with fail
  go_ret
  exact ⟨rfl, B0.out⟩
def anS (x : Stt) (a : Int) : Stt := { x with pb := x.pb.filter fun p => p.a != a }
theorem an_none {x : Stt} {a : Int} (h : x.pb.findIdx? (fun p => p.a == a) = none) : anS x a = x ∧ Pb.toB x.pb a = false := by
  rw [List.findIdx?_eq_none_iff] at h
  have e : x.pb.filter (fun p => p.a != a) = x.pb := List.filter_eq_self.2 fun p hp => by have := h p hp; simp at this; simpa using this
  refine ⟨by unfold anS; rw [e], Pb.to_false.2 fun p hp => by have := h p hp; simpa using this⟩
theorem an_some {x : Stt} {a : Int} {i : Nat} (hi : In x) (h : x.pb.findIdx? (fun p => p.a == a) = some i) : i < x.pb.length ∧ Pb.del x.pb i = x.pb.filter (fun p => p.a != a) ∧ Pb.toB x.pb a = true := by
  rw [List.findIdx?_eq_some_iff_getElem] at h
  obtain ⟨hl, hp, -⟩ := h
  have hp' : x.pb[i].a = a := by simpa using hp
  refine ⟨hl, ?_, Pb.to_true.2 ⟨x.pb[i], List.getElem_mem hl, hp'⟩⟩
  have hd := List.pairwise_iff_getElem.1 (List.pairwise_map.1 hi.pv.r.dis)
  have e0 : x.pb = x.pb.take i ++ x.pb[i] :: x.pb.drop (i + 1) := by rw [List.getElem_cons_drop, List.take_append_drop]
  unfold Pb.del
  conv => rhs; rw [e0]
  rw [List.filter_append, List.filter_cons, if_neg (by simp [hp'])]
  congr 1
  · symm
    rw [List.filter_eq_self]
    intro p hm
    obtain ⟨j, hj, rfl⟩ := List.mem_iff_getElem.1 hm
    rw [List.length_take] at hj
    rw [List.getElem_take]
    have := hd j i (by omega) hl (by omega)
    rw [hp'] at this
    simpa using this
  · symm
    rw [List.filter_eq_self]
    intro p hm
    obtain ⟨j, hj, rfl⟩ := List.mem_iff_getElem.1 hm
    rw [List.length_drop] at hj
    rw [List.getElem_drop]
    have := hd i (i + 1 + j) hl (by omega) (by omega)
    rw [hp'] at this
    simpa using fun e => this e.symm
theorem In.an {x : Stt} (h : In x) (a : Int) : In (anS x a) := by
  cases hf : x.pb.findIdx? (fun p => p.a == a) with
  | none => rw [(an_none hf).1]; exact h
  | some i =>
    unfold anS
    rw [← (an_some h hf).2.1]
    exact h.pb' (Pb.del_ok h.pv i)
set_option maxRecDepth 100000 in
set_option maxHeartbeats 4000000 in
theorem answeredS_any (x : Stt) (r : Rws) (a : Int) (b : Nat) (w : World) (H : Sb w b (stl x r)) (h : Lie w x r) (hi : In x) :
    Calls Tryz.prog 106 #[.pointer (some ⟨b, 0, none⟩), .int .u32 a] w (PP w b (anS x a) (.returned (.bool (Pb.toB x.pb a)))) := by
  have B0 := Lib.hid (show Below w.heap.size w (w.alloc (.cells #[.int .u32 a] 40)) from (Below.refl _ w).alloc (Nat.le_refl _) _)
  have S0 := Lib.hid (H.below B0.out)
  have R0 := Lib.hid (h.below B0.out)
  have O0 := Lib.hid (Ob.of B0.out H.lt)
  have hga : (w.alloc (.cells #[.int .u32 a] 40)).cell? ⟨w.heap.size, 0, none⟩ = some (.int .u32 a) := by simp
  have hgl : w.heap.size < (w.alloc (.cells #[.int .u32 a] 40)).heap.size := by simp
  have HIX := Lib.hid (index_any (fun p => p.a == a) 126 #[.pointer (some ⟨w.heap.size, 0, none⟩)] (fun args W => callFunc_enter Tryz.func126 (by kernel_rfl) rfl args W) r.p x.pb r.pc (w.alloc (.cells #[.int .u32 a] 40)) R0.out.p
    (fun z hz W hW => ans1_any z a w.heap.size W (by rw [hW.cell (p := ⟨w.heap.size, 0, none⟩) hgl]; exact hga)))
  have hp16 := hi.p16
  have k5 := S0.out.cx.key 5 _ rfl
  (try dsimp only at k5)
  cases hf : x.pb.findIdx? (fun p => p.a == a) with
  | none =>
    have HAN := Lib.hid (an_none hf)
    rw [hf] at HIX
    simp only [Cs.fnI] at HIX
    have HX := Lib.hid (show ∃ r, Sb (w.alloc (.cells #[.int .u32 a] 40)) b (stl x r) ∧ Lie (w.alloc (.cells #[.int .u32 a] 40)) x r from ⟨r, S0.out, R0.out⟩)
    obtain ⟨L, hL⟩ : ∃ L, x.pb.length = L := ⟨_, rfl⟩
    rw [hL] at HIX k5
    clear h H hi hf hga hgl S0 R0 hp16 hL
    go_enter Tryz.func106, Tryz.ntmps106
    go_wp2_with fail
    refine HIX.out.mono ?_
    rintro e w1 ⟨rfl, hb⟩
    have HB := Lib.hid hb
    clear hb
    go_wp2_with fail
    go_ret
    obtain ⟨r, hS, hR⟩ := HX.out
    refine ⟨ret_bool HAN.out.2.symm, ?_, O0.out.trans (Ob.of HB.out hS.lt)⟩
    rw [HAN.out.1]
    exact ⟨r, hS.below HB.out, hR.below HB.out⟩
  | some i =>
    have HF := Lib.hid (an_some hi hf)
    have HAN0 := show anS x a = { x with pb := Pb.del x.pb i } from by unfold anS; rw [HF.out.2.1]
    have hil := HF.out.1
    rw [hf] at HIX
    simp only [Cs.fnI] at HIX
    clear h H hi hf hga hgl
    obtain ⟨n, q, hs, sw, kn, pb, cs⟩ := x
    obtain ⟨A1, c1, A2, c2, A3, c3, A4, c4, A5, c5⟩ := r
    dsimp only at HIX hp16 hil HAN0 HF k5
    obtain ⟨ys, hys⟩ : ∃ ys, Pb.del pb i = ys := ⟨_, rfl⟩
    rw [hys] at HAN0
    have HAN := Lib.hid HAN0
    obtain ⟨y, rfl⟩ := rw_some R0.out.p (by dsimp only; omega)
    have hcap := R0.out.pc
    dsimp only at hcap
    obtain ⟨ps, hps⟩ : ∃ ps : List (Pt Pb.Pr), ps = [⟨some y, pb.take i, c4⟩, ⟨dA 5 (some y) c4 (i + 1), pb.drop (i + 1), c4 - (i + 1)⟩] := ⟨_, rfl⟩
    have e1 : (pb.take i).length = i := by rw [List.length_take]; omega
    have e2 : (pb.drop (i + 1)).length = pb.length - (i + 1) := by rw [List.length_drop]
    have hcat : cat ps ps.length = ys := by rw [← hys, hps]; simp [cat, Pb.del]
    have hyl : ys.length ≤ 1000 := by rw [← hys]; unfold Pb.del; rw [List.length_append, e1, e2]; omega
    have HPM := Lib.hid (show ∀ W, Rw Pb.eP W (some y) pb → Pb.pF ps (.slice (some ⟨W.heap.size, 0, none⟩) 2 2) (W.alloc (.cells #[.slice (some y) i c4, .slice (dA 5 (some y) c4 (i + 1)) (pb.length - (i + 1)) (c4 - (i + 1))] 32)) from fun W hW => by
      subst hps
      have := Pb.pm_two W ⟨some y, pb.take i, c4⟩ ⟨dA 5 (some y) c4 (i + 1), pb.drop (i + 1), c4 - (i + 1)⟩ 32 (hW.take _) (hW.rest hcap _)
      dsimp only at this
      rw [e1, e2] at this
      exact ⟨_, rfl, this⟩)
    have HCC := Lib.hid (show ∀ W b, Pm Pb.eP W b ps → Calls Tryz.prog 113 #[.slice (some ⟨b, 0, none⟩) 2 2] W (RP Rp W ys) from fun W b hb => by
      have := Pb.concat_any ps b 2 W hb (by rw [hcat]; omega) (by rw [hps]; simp)
      rw [hcat, show ps.length = 2 by rw [hps]; rfl] at this
      exact this.mono fun _ _ k => own_rp k (by omega))
    have HSH := Lib.hid (fun W => Pb.run_sl29 (some y) pb.length c4 i (by omega) W)
    have HSL := Lib.hid (fun W => Pb.run_sl29l (some y) pb.length c4 (i + 1) (by omega) hcap W)
    have HPL := Lib.hid (show ps.length = 2 by rw [hps]; rfl)
    have HWR := Lib.hid (show IntKind.i64.wrap ((i : Int) + 1) = (i : Int) + 1 by rw [IntKind.wrap_i64]; omega)
    simp only [stl] at S0
    obtain ⟨L, hL⟩ : ∃ L, pb.length = L := ⟨_, rfl⟩
    have HL := Lib.hid hL
    rw [hL] at HIX S0 HPM HSH HSL hcap hp16 hil k5
    clear hps hcat hys hyl e1 e2 HAN0 hL
    go_enter Tryz.func106, Tryz.ntmps106
    go_wp2_with fail
    refine HIX.out.mono ?_
    rintro e w1 ⟨rfl, hb⟩
    have R1 := Lib.hid (R0.out.below hb)
    have S1 := Lib.hid (S0.out.below hb)
    have O1 := Lib.hid (O0.out.trans (Ob.of hb S0.out.lt))
    clear hb S0 R0 O0 k5
    go_wp2_with fail
    refine wp_region_below_tail 16 [fx (.pointer (some ⟨b, 0, none⟩)), fx (.pointer (some ⟨b, 0, none⟩)), fx (.pointer (some ⟨b, 0, none⟩)), fx (.pointer (some ⟨b, 5, none⟩)), fx (.slice (some y) L c4), fx (.int .i64 (i : Int)), fx (.slice (some y) i c4), fx (.pointer (some ⟨b, 0, none⟩)), fx (.pointer (some ⟨b, 0, none⟩)), fx (.pointer (some ⟨b, 5, none⟩)), fx (.slice (some y) L c4), fx (.int .i64 (i : Int)), fx (.int .i64 ((i + 1 : Nat) : Int)), fx (.slice (dA 5 (some y) c4 (i + 1)) (L - (i + 1)) (c4 - (i + 1))), Pb.pF ps, rF Rp ys]
      (by kernel_rfl) (by simp) (by kernel_rfl) (by kernel_rfl) (by kernel_rfl) ?_ ?_ ?_
    · simp only [List.mem_cons, List.not_mem_nil, or_false]
      rintro φ (rfl | rfl | rfl | rfl | rfl | rfl | rfl | rfl | rfl | rfl | rfl | rfl | rfl | rfl | rfl | rfl)
      all_goals first | exact stable_fx _ | exact stable_rF hld_h _ | exact stable_rF hld_s _ | exact stable_rF hld_k _ | exact stable_rF hld_p _ | exact stable_rF hld_c _ | exact stable_tF hld_h _ _ | exact stable_tF hld_s _ _ | exact stable_tF hld_k _ _ | exact stable_tF hld_p _ _ | exact stable_tF hld_c _ _ | exact Pb.stable_pF _
    · refine OgSteps.cons ?_ (OgSteps.cons ?_ (OgSteps.cons ?_ (OgSteps.cons ?_ (OgSteps.cons ?_ (OgSteps.cons ?_ (OgSteps.cons ?_ (OgSteps.cons ?_ (OgSteps.cons ?_ (OgSteps.cons ?_ (OgSteps.cons ?_ (OgSteps.cons ?_ (OgSteps.cons ?_ (OgSteps.cons ?_ (OgSteps.cons ?_ (OgSteps.cons ?_ (OgSteps.nil))))))))))))))))
      · refine OgStep.pure ?_ ?_
        · rfl
        intro u W hS hp
        refine ⟨.pointer (some ⟨b, 0, none⟩), ?_, rfl⟩
        simp only [ogMk, Act.put, List.setIfInBounds_toArray, List.set_cons_zero, List.set_cons_succ, Nat.zero_add, Nat.reduceAdd, List.take_succ_cons, List.take_zero, List.drop_succ_cons, List.drop_zero]
        simp [execOp, Act.eval, go_sem]
      · refine OgStep.pure ?_ ?_
        · rfl
        intro u W hS hp
        refine ⟨.pointer (some ⟨b, 0, none⟩), ?_, rfl⟩
        simp only [ogMk, Act.put, List.setIfInBounds_toArray, List.set_cons_zero, List.set_cons_succ, Nat.zero_add, Nat.reduceAdd, List.take_succ_cons, List.take_zero, List.drop_succ_cons, List.drop_zero]
        simp [execOp, Act.eval, go_sem]
      · refine OgStep.pure ?_ ?_
        · rfl
        intro u W hS hp
        have h1 : u 1 = .pointer (some ⟨b, 0, none⟩) := hp ⟨1, .data⟩ (by simp) rfl
        refine ⟨.pointer (some ⟨b, 0, none⟩), ?_, rfl⟩
        simp only [ogMk, Act.put, List.setIfInBounds_toArray, List.set_cons_zero, List.set_cons_succ, Nat.zero_add, Nat.reduceAdd, List.take_succ_cons, List.take_zero, List.drop_succ_cons, List.drop_zero]
        simp [execOp, Act.eval, go_sem, h1]
      · refine OgStep.pure ?_ ?_
        · rfl
        intro u W hS hp
        have h2 : u 2 = .pointer (some ⟨b, 0, none⟩) := hp ⟨2, .data⟩ (by simp) rfl
        refine ⟨.pointer (some ⟨b, 5, none⟩), ?_, rfl⟩
        simp only [ogMk, Act.put, List.setIfInBounds_toArray, List.set_cons_zero, List.set_cons_succ, Nat.zero_add, Nat.reduceAdd, List.take_succ_cons, List.take_zero, List.drop_succ_cons, List.drop_zero]
        simp [execOp, Act.eval, go_sem, h2]
      · refine OgStep.pure ?_ ?_
        · rfl
        intro u W hS hp
        have h3 : u 3 = .pointer (some ⟨b, 5, none⟩) := hp ⟨3, .data⟩ (by simp) rfl
        have k5 := (S1.out.below hS).cx.key 5 _ rfl
        (try dsimp only at k5)
        refine ⟨.slice (some y) L c4, ?_, rfl⟩
        simp only [ogMk, Act.put, List.setIfInBounds_toArray, List.set_cons_zero, List.set_cons_succ, Nat.zero_add, Nat.reduceAdd, List.take_succ_cons, List.take_zero, List.drop_succ_cons, List.drop_zero]
        simp [execOp, Act.eval, go_sem, h3, k5]
      · refine OgStep.pure ?_ ?_
        · rfl
        intro u W hS hp
        refine ⟨.int .i64 (i : Int), ?_, rfl⟩
        simp only [ogMk, Act.put, List.setIfInBounds_toArray, List.set_cons_zero, List.set_cons_succ, Nat.zero_add, Nat.reduceAdd, List.take_succ_cons, List.take_zero, List.drop_succ_cons, List.drop_zero]
        simp [execOp, Act.eval, go_sem]
      · refine OgStep.pure ?_ ?_
        · rfl
        intro u W hS hp
        have h4 : u 4 = .slice (some y) L c4 := hp ⟨4, .data⟩ (by simp) rfl
        have h5 : u 5 = .int .i64 (i : Int) := hp ⟨5, .data⟩ (by simp) rfl
        have R := HSH.out W
        refine ⟨.slice (some y) i c4, ?_, rfl⟩
        simp only [ogMk, Act.put, List.setIfInBounds_toArray, List.set_cons_zero, List.set_cons_succ, Nat.zero_add, Nat.reduceAdd, List.take_succ_cons, List.take_zero, List.drop_succ_cons, List.drop_zero]
        simp [execOp, Act.eval, go_sem, h4, h5, R]
      · refine OgStep.pure ?_ ?_
        · rfl
        intro u W hS hp
        refine ⟨.pointer (some ⟨b, 0, none⟩), ?_, rfl⟩
        simp only [ogMk, Act.put, List.setIfInBounds_toArray, List.set_cons_zero, List.set_cons_succ, Nat.zero_add, Nat.reduceAdd, List.take_succ_cons, List.take_zero, List.drop_succ_cons, List.drop_zero]
        simp [execOp, Act.eval, go_sem]
      · refine OgStep.pure ?_ ?_
        · rfl
        intro u W hS hp
        have h7 : u 7 = .pointer (some ⟨b, 0, none⟩) := hp ⟨7, .data⟩ (by simp) rfl
        refine ⟨.pointer (some ⟨b, 0, none⟩), ?_, rfl⟩
        simp only [ogMk, Act.put, List.setIfInBounds_toArray, List.set_cons_zero, List.set_cons_succ, Nat.zero_add, Nat.reduceAdd, List.take_succ_cons, List.take_zero, List.drop_succ_cons, List.drop_zero]
        simp [execOp, Act.eval, go_sem, h7]
      · refine OgStep.pure ?_ ?_
        · rfl
        intro u W hS hp
        have h8 : u 8 = .pointer (some ⟨b, 0, none⟩) := hp ⟨8, .data⟩ (by simp) rfl
        refine ⟨.pointer (some ⟨b, 5, none⟩), ?_, rfl⟩
        simp only [ogMk, Act.put, List.setIfInBounds_toArray, List.set_cons_zero, List.set_cons_succ, Nat.zero_add, Nat.reduceAdd, List.take_succ_cons, List.take_zero, List.drop_succ_cons, List.drop_zero]
        simp [execOp, Act.eval, go_sem, h8]
      · refine OgStep.pure ?_ ?_
        · rfl
        intro u W hS hp
        have h9 : u 9 = .pointer (some ⟨b, 5, none⟩) := hp ⟨9, .data⟩ (by simp) rfl
        have k5 := (S1.out.below hS).cx.key 5 _ rfl
        (try dsimp only at k5)
        refine ⟨.slice (some y) L c4, ?_, rfl⟩
        simp only [ogMk, Act.put, List.setIfInBounds_toArray, List.set_cons_zero, List.set_cons_succ, Nat.zero_add, Nat.reduceAdd, List.take_succ_cons, List.take_zero, List.drop_succ_cons, List.drop_zero]
        simp [execOp, Act.eval, go_sem, h9, k5]
      · refine OgStep.pure ?_ ?_
        · rfl
        intro u W hS hp
        refine ⟨.int .i64 (i : Int), ?_, rfl⟩
        simp only [ogMk, Act.put, List.setIfInBounds_toArray, List.set_cons_zero, List.set_cons_succ, Nat.zero_add, Nat.reduceAdd, List.take_succ_cons, List.take_zero, List.drop_succ_cons, List.drop_zero]
        simp [execOp, Act.eval, go_sem]
      · refine OgStep.pure ?_ ?_
        · rfl
        intro u W hS hp
        have h11 : u 11 = .int .i64 (i : Int) := hp ⟨11, .data⟩ (by simp) rfl
        have R := HWR.out
        refine ⟨.int .i64 ((i + 1 : Nat) : Int), ?_, rfl⟩
        simp only [ogMk, Act.put, List.setIfInBounds_toArray, List.set_cons_zero, List.set_cons_succ, Nat.zero_add, Nat.reduceAdd, List.take_succ_cons, List.take_zero, List.drop_succ_cons, List.drop_zero]
        simp [execOp, Act.eval, go_sem, h11, R]
      · refine OgStep.pure ?_ ?_
        · rfl
        intro u W hS hp
        have h10 : u 10 = .slice (some y) L c4 := hp ⟨10, .data⟩ (by simp) rfl
        have h12 : u 12 = .int .i64 ((i + 1 : Nat) : Int) := hp ⟨12, .data⟩ (by simp) rfl
        have R := HSL.out W
        rw [show ((i + 1 : Nat) : Int) = (i : Int) + 1 by omega] at R
        refine ⟨.slice (dA 5 (some y) c4 (i + 1)) (L - (i + 1)) (c4 - (i + 1)), ?_, rfl⟩
        simp only [ogMk, Act.put, List.setIfInBounds_toArray, List.set_cons_zero, List.set_cons_succ, Nat.zero_add, Nat.reduceAdd, List.take_succ_cons, List.take_zero, List.drop_succ_cons, List.drop_zero]
        simp [execOp, Act.eval, go_sem, h10, h12, R]
      · refine OgStep.made ?_ ?_
        · rfl
        intro u W hS hp
        have h6 : u 6 = .slice (some y) i c4 := hp ⟨6, .data⟩ (by simp) rfl
        have h13 : u 13 = .slice (dA 5 (some y) c4 (i + 1)) (L - (i + 1)) (c4 - (i + 1)) := hp ⟨13, .data⟩ (by simp) rfl
        refine ⟨.slice (some ⟨W.heap.size, 0, none⟩) 2 2, _, ?_, (Below.refl _ W).alloc (Nat.le_refl _) _, HPM.out W (R1.out.below hS).p⟩
        simp only [ogMk, Act.put, List.setIfInBounds_toArray, List.set_cons_zero, List.set_cons_succ, Nat.zero_add, Nat.reduceAdd, List.take_succ_cons, List.take_zero, List.drop_succ_cons, List.drop_zero]
        simp [execOp, Act.eval, go_sem, h6, h13]
      · refine OgStep.calls ?_ ?_
        · rfl
        intro u W hS hp
        obtain ⟨bb, e14, hPm⟩ : Pb.pF ps (u 14) W := hp ⟨14, .data⟩ (by simp) rfl
        refine ⟨113, #[.slice (some ⟨bb, 0, none⟩) 2 2], ?_, calls_RP (HCC.out W bb hPm) rfl⟩
        simp only [ogMk, Act.put, List.setIfInBounds_toArray, List.set_cons_zero, List.set_cons_succ, Nat.zero_add, Nat.reduceAdd, List.take_succ_cons, List.take_zero, List.drop_succ_cons, List.drop_zero]
        rw [e14, HPL.out]
        simp [execOp, Act.eval, go_sem]
    · intro u W hS hF
      have e0 : u 0 = .pointer (some ⟨b, 0, none⟩) := hF 0 (by decide)
      have e1 : u 1 = .pointer (some ⟨b, 0, none⟩) := hF 1 (by decide)
      have e2 : u 2 = .pointer (some ⟨b, 0, none⟩) := hF 2 (by decide)
      have e3 : u 3 = .pointer (some ⟨b, 5, none⟩) := hF 3 (by decide)
      have e4 : u 4 = .slice (some y) L c4 := hF 4 (by decide)
      have e5 : u 5 = .int .i64 (i : Int) := hF 5 (by decide)
      have e6 : u 6 = .slice (some y) i c4 := hF 6 (by decide)
      have e7 : u 7 = .pointer (some ⟨b, 0, none⟩) := hF 7 (by decide)
      have e8 : u 8 = .pointer (some ⟨b, 0, none⟩) := hF 8 (by decide)
      have e9 : u 9 = .pointer (some ⟨b, 5, none⟩) := hF 9 (by decide)
      have e10 : u 10 = .slice (some y) L c4 := hF 10 (by decide)
      have e11 : u 11 = .int .i64 (i : Int) := hF 11 (by decide)
      have e12 : u 12 = .int .i64 ((i + 1 : Nat) : Int) := hF 12 (by decide)
      have e13 : u 13 = .slice (dA 5 (some y) c4 (i + 1)) (L - (i + 1)) (c4 - (i + 1)) := hF 13 (by decide)
      obtain ⟨A6, c6, e15, hc6, hR6⟩ : rF Rp ys (u 15) W := hF 15 (by decide)
      simp only [ogMk, Act.put, List.setIfInBounds_toArray, List.set_cons_zero, List.set_cons_succ, Nat.zero_add, Nat.reduceAdd, List.take_succ_cons, List.take_zero, List.drop_succ_cons, List.drop_zero]
      rw [e0, e1, e2, e3, e4, e5, e6, e7, e8, e9, e10, e11, e12, e13, e15]
      clear e0 e1 e2 e3 e4 e5 e6 e7 e8 e9 e10 e11 e12 e13 e15 hF
      have R2 := Lib.hid (R1.out.below hS)
      have S2 := Lib.hid (S1.out.below hS)
      have O2 := Lib.hid (O1.out.trans (Ob.of hS S1.out.lt))
      clear hS R1 S1 O1
      go_wp2_with (refine at_fieldSt 32 _ _ b [.int .i64 n, .int .i64 q, .slice A1 hs.length c1, .slice A2 sw.length c2, .slice A3 kn.length c3] (.slice (some y) L c4) (.slice A6 ys.length c6) [.slice A5 cs.length c5] S2.out sizeRp rfl (ns_sl _ _ _) rfl rfl rfl rfl rfl ?_)
      intro w3 S3 hb3 hk3
      have O3 := Lib.hid (O2.out.trans (Ob.put hb3.out hk3.out))
      have R3 := Lib.hid (show Lie w3 ⟨n, q, hs, sw, kn, ys, cs⟩ ⟨A1, c1, A2, c2, A3, c3, A6, c6, A5, c5⟩ from { R2.out.apart S2.out.bs hk3.out with p := rw_apart mk_P hR6 S2.out.bs hk3.out, pc := hc6 })
      clear hb3 hk3 R2 S2 hR6
      go_wp2_with fail
      go_ret
      refine ⟨ret_bool HF.out.2.2.symm, ?_, O3.out⟩
      rw [HAN.out]
      exact ⟨⟨A1, c1, A2, c2, A3, c3, A6, c6, A5, c5⟩, S3.out, R3.out⟩
end Go.Proofs.YtilneflfeegnfaaGreat
namespace Go.Proofs.YtilneflfeegnfaaGreat
open Go.RowKit
def CP (w : World) (b : Nat) (D : Stt × List Pb.Pk × Int) (e : Ending) (w' : World) : Prop := e = .returned (.int .i64 D.2.2) ∧ (D.2.2 = 0 → ∃ r, Sb w' b (stl D.1 r) ∧ Lie w' D.1 r) ∧ Ob b w w'
theorem an_len {x : Stt} {a : Int} : Pb.toB x.pb a = false ↔ (x.pb.filter fun p => p.a != a).length = x.pb.length := by
  rw [Pb.to_false, List.length_filter_eq_length_iff]
  exact ⟨fun h p hp => by simpa using h p hp, fun h p hp => by simpa using h p hp⟩
theorem sizeMac : (Tryz.prog.info? 42).map (·.size) = some 6 := by kernel_rfl
theorem upd_ok {x y : Stt} : upd x y 0 = (y, [], 0) := rfl
theorem upd_no {x y : Stt} {q : Int} (h : q ≠ 0) : upd x y q = (x, [], q) := if_neg h
set_option maxRecDepth 100000 in
set_option maxHeartbeats 4000000 in
theorem sawS_any (x : Stt) (r : Rws) (a : Int) (s : Sn.Sg) (b : Nat) (w : World) (H : Sb w b (stl x r)) (h : Lie w x r) (hi : In x) (ha0 : 0 ≤ a) (ha1 : a < 4294967296) :
    Calls Tryz.prog 65 #[.pointer (some ⟨b, 0, none⟩), .int .u32 a, Sn.sv s] w (CP w b (sawL x a s)) := by
  have HAN := Lib.hid fun r W H h => answeredS_any x r a b W H h hi
  have HQ0 := show sawL x a s = _ from by unfold sawL; rfl
  have HLN := an_len (x := x) (a := a)
  have hc9 : x.cs.length ≤ 900 := by have := hi.c16; omega
  have hbd := hi.kv.bd
  obtain ⟨f, m0, m1, m2, m3, m4, m5, t⟩ := s
  have B0 := Lib.hid (show Below w.heap.size w (w.alloc (.cells #[.int .i64 f, .int .u8 m0, .int .u8 m1, .int .u8 m2, .int .u8 m3, .int .u8 m4, .int .u8 m5, .int .i64 t] 49)) from (Below.refl _ w).alloc (Nat.le_refl _) _)
  have X0 := Lib.hid (cx_box w [.int .i64 f, .int .u8 m0, .int .u8 m1, .int .u8 m2, .int .u8 m3, .int .u8 m4, .int .u8 m5, .int .i64 t] _ 49 rfl : Cx (w.alloc (.cells #[.int .i64 f, .int .u8 m0, .int .u8 m1, .int .u8 m2, .int .u8 m3, .int .u8 m4, .int .u8 m5, .int .i64 t] 49)) w.heap.size [.int .i64 f, .int .u8 m0, .int .u8 m1, .int .u8 m2, .int .u8 m3, .int .u8 m4, .int .u8 m5, .int .i64 t])
  have S0 := Lib.hid (H.below B0.out)
  have LT := Lib.hid H.lt
  have Hw := Lib.hid H
  have hw := Lib.hid h
  have HPU := Lib.hid fun (s : Sn.Sg) (A : Option Addr) (cap : Nat) W (hW : Sn.Ks W A x.kn) (hc : x.kn.length ≤ cap) => Sn.put_any a s A x.kn cap W hW hc hbd ha0 ha1
  obtain ⟨pbf, hpf⟩ : ∃ pbf, (x.pb.filter fun p => p.a != a) = pbf := ⟨_, rfl⟩
  have hAN : anS x a = { x with pb := pbf } := by unfold anS; rw [hpf]
  obtain ⟨fb, hfb⟩ : ∃ fb, Pb.toB x.pb a = fb := ⟨_, rfl⟩
  rw [hAN, hfb] at HAN
  rw [hpf] at HQ0 HLN
  rw [hfb] at HLN
  simp only [sgL] at HQ0
  clear hbd hpf hAN hfb hi H h
  obtain ⟨n, q, hs, sw, kn, pb, cs⟩ := x
  obtain ⟨A1, c1, A2, c2, A3, c3, A4, c4, A5, c5⟩ := r
  dsimp only at HQ0 HLN hc9 HPU
  have HQH := Lib.hid HQ0
  have HLH := Lib.hid HLN
  clear HQ0 HLN
  have k0 := S0.out.cx.key 0 _ rfl
  (try dsimp only at k0)
  simp only [Sn.sv]
  go_enter Tryz.func65, Tryz.ntmps65
  go_wp2_with (refine at_put1 3 _ _ w.heap.size [.int .i64 f, .int .u8 m0, .int .u8 m1, .int .u8 m2, .int .u8 m3, .int .u8 m4, .int .u8 m5] (.int .i64 t) (.int .i64 n) [] X0.out sizeInt rfl rfl rfl rfl rfl rfl ?_)
  intro w1 X1 hb1 hk1
  have BW1 := Lib.hid (B0.out.trans (hb1.out _ (Nat.le_refl _)))
  have X1 := Lib.hid (show Cx w1 w.heap.size [.int .i64 f, .int .u8 m0, .int .u8 m1, .int .u8 m2, .int .u8 m3, .int .u8 m4, .int .u8 m5, .int .i64 n] from X1.out)
  have S1 := Lib.hid (Hw.out.below BW1.out)
  have R1 := Lib.hid (hw.out.below BW1.out)
  have O1 := Lib.hid (Ob.of BW1.out LT.out)
  clear hb1 hk1 S0 X0 B0 k0
  have k0 := X1.out.key 0 _ rfl
  (try dsimp only at k0)
  by_cases hf : f = 0
  · subst hf
    go_wp2_with (refine at_put 42 _ _ w.heap.size [.int .i64 0] [.int .u8 m0, .int .u8 m1, .int .u8 m2, .int .u8 m3, .int .u8 m4, .int .u8 m5] [.int .u8 0, .int .u8 0, .int .u8 0, .int .u8 0, .int .u8 0, .int .u8 0] [.int .i64 n] X1.out rfl sizeMac (by simp [Value.oneCell']) rfl rfl rfl rfl ?_)
    intro w2 X2 hb2 hk2
    have BW2 := Lib.hid (BW1.out.trans (hb2.out _ (Nat.le_refl _)))
    have X2 := Lib.hid (show Cx w2 w.heap.size [.int .i64 0, .int .u8 0, .int .u8 0, .int .u8 0, .int .u8 0, .int .u8 0, .int .u8 0, .int .i64 n] from X2.out)
    have S2 := Lib.hid (Hw.out.below BW2.out)
    have R2 := Lib.hid (hw.out.below BW2.out)
    have O2 := Lib.hid (Ob.of BW2.out LT.out)
    clear hb2 hk2 S1 X1 BW1 R1 O1 k0
    go_wp2_with fail
    refine (HAN.out _ w2 S2.out R2.out).mono ?_
    rintro e w3 ⟨rfl, ⟨r3, hS, hR⟩, hO⟩
    have O5 := Lib.hid (O2.out.trans hO)
    have X5 := Lib.hid (cx_ob X2.out hO (by have := LT.out; omega))
    obtain ⟨A1', c1', A2', c2', A3, c3, A4', c4', A5', c5'⟩ := r3
    have S5 := Lib.hid hS
    have R5 := Lib.hid hR
    simp only [stl] at S5
    have HPU := Lib.hid fun W (hW : Lie W ⟨n, q, hs, sw, kn, pbf, cs⟩ ⟨A1', c1', A2', c2', A3, c3, A4', c4', A5', c5'⟩) => HPU.out ⟨0, 0, 0, 0, 0, 0, 0, n⟩ A3 c3 W hW.k hW.kc
    clear hS hR hO S2 X2 R2 O2 BW2 HAN
    have HQ0 := HQH.out
    have HLN := HLH.out
    simp only [if_true] at HQ0
    clear HQH HLH
    cases fb
    · rw [if_pos (HLN.1 rfl)] at HQ0
      have HQ := Lib.hid HQ0
      clear HQ0 HLN
      go_wp2_with fail
      go_ret
      rw [HQ.out]
      exact ⟨rfl, (fun h => by cases h), O5.out⟩
    · rw [if_neg (fun hh => by have := HLN.2 hh; cases this)] at HQ0
      obtain ⟨ys, hys⟩ : ∃ ys, Sn.putR kn a ⟨0, 0, 0, 0, 0, 0, 0, n⟩ = ys := ⟨_, rfl⟩
      obtain ⟨er, her⟩ : ∃ er, Sn.putC kn a ⟨0, 0, 0, 0, 0, 0, 0, n⟩ = er := ⟨_, rfl⟩
      rw [hys, her] at HPU HQ0
      simp only [Sn.sv] at HPU
      have HQ := Lib.hid HQ0
      clear HQ0 HLN hys her
      go_wp2_with fail
      refine wp_region_below [fx (.pointer (some ⟨b, 0, none⟩)), fx (.pointer (some ⟨b, 0, none⟩)), fx (.pointer (some ⟨b, 4, none⟩)), fx (.slice A3 kn.length c3), fx (.int .u32 a), fx (.agg #[.int .i64 0, .int .u8 0, .int .u8 0, .int .u8 0, .int .u8 0, .int .u8 0, .int .u8 0, .int .i64 n]), tF Rk ys er, tF Rk ys er, rF Rk ys, fx (.int .i64 er), rF Rk ys, fx (.int .i64 er)]
        (by kernel_rfl) (by kernel_rfl) (by kernel_rfl) ?_ ?_ ?_
      · simp only [List.mem_cons, List.not_mem_nil, or_false]
        rintro φ (rfl | rfl | rfl | rfl | rfl | rfl | rfl | rfl | rfl | rfl | rfl | rfl)
        all_goals first | exact stable_fx _ | exact stable_rF hld_h _ | exact stable_rF hld_s _ | exact stable_rF hld_k _ | exact stable_rF hld_p _ | exact stable_rF hld_c _ | exact stable_tF hld_h _ _ | exact stable_tF hld_s _ _ | exact stable_tF hld_k _ _ | exact stable_tF hld_p _ _ | exact stable_tF hld_c _ _
      · refine OgSteps.cons ?_ (OgSteps.cons ?_ (OgSteps.cons ?_ (OgSteps.cons ?_ (OgSteps.cons ?_ (OgSteps.cons ?_ (OgSteps.cons ?_ (OgSteps.cons ?_ (OgSteps.cons ?_ (OgSteps.cons ?_ (OgSteps.cons ?_ (OgSteps.cons ?_ (OgSteps.nil))))))))))))
        · refine OgStep.pure ?_ ?_
          · rfl
          intro u W hS hp
          refine ⟨.pointer (some ⟨b, 0, none⟩), ?_, rfl⟩
          simp only [ogMk, Act.put, List.setIfInBounds_toArray, List.set_cons_zero, List.set_cons_succ, Nat.zero_add, Nat.reduceAdd, List.take_succ_cons, List.take_zero, List.drop_succ_cons, List.drop_zero]
          simp [execOp, Act.eval, go_sem]
        · refine OgStep.pure ?_ ?_
          · rfl
          intro u W hS hp
          have h0 : u 0 = .pointer (some ⟨b, 0, none⟩) := hp ⟨0, .data⟩ (by simp) rfl
          refine ⟨.pointer (some ⟨b, 0, none⟩), ?_, rfl⟩
          simp only [ogMk, Act.put, List.setIfInBounds_toArray, List.set_cons_zero, List.set_cons_succ, Nat.zero_add, Nat.reduceAdd, List.take_succ_cons, List.take_zero, List.drop_succ_cons, List.drop_zero]
          simp [execOp, Act.eval, go_sem, h0]
        · refine OgStep.pure ?_ ?_
          · rfl
          intro u W hS hp
          have h1 : u 1 = .pointer (some ⟨b, 0, none⟩) := hp ⟨1, .data⟩ (by simp) rfl
          refine ⟨.pointer (some ⟨b, 4, none⟩), ?_, rfl⟩
          simp only [ogMk, Act.put, List.setIfInBounds_toArray, List.set_cons_zero, List.set_cons_succ, Nat.zero_add, Nat.reduceAdd, List.take_succ_cons, List.take_zero, List.drop_succ_cons, List.drop_zero]
          simp [execOp, Act.eval, go_sem, h1]
        · refine OgStep.pure ?_ ?_
          · rfl
          intro u W hS hp
          have h2 : u 2 = .pointer (some ⟨b, 4, none⟩) := hp ⟨2, .data⟩ (by simp) rfl
          have k4 := (S5.out.below hS).cx.key 4 _ rfl
          (try dsimp only at k4)
          refine ⟨.slice A3 kn.length c3, ?_, rfl⟩
          simp only [ogMk, Act.put, List.setIfInBounds_toArray, List.set_cons_zero, List.set_cons_succ, Nat.zero_add, Nat.reduceAdd, List.take_succ_cons, List.take_zero, List.drop_succ_cons, List.drop_zero]
          simp [execOp, Act.eval, go_sem, h2, k4]
        · refine OgStep.pure ?_ ?_
          · rfl
          intro u W hS hp
          refine ⟨.int .u32 a, ?_, rfl⟩
          simp only [ogMk, Act.put, List.setIfInBounds_toArray, List.set_cons_zero, List.set_cons_succ, Nat.zero_add, Nat.reduceAdd, List.take_succ_cons, List.take_zero, List.drop_succ_cons, List.drop_zero]
          simp [execOp, Act.eval, go_sem]
        · refine OgStep.pure ?_ ?_
          · rfl
          intro u W hS hp
          have G := Cx.below X5.out hS
          have g0 := G.key 0 _ rfl
          have g1 := G.key 1 _ rfl
          have g2 := G.key 2 _ rfl
          have g3 := G.key 3 _ rfl
          have g4 := G.key 4 _ rfl
          have g5 := G.key 5 _ rfl
          have g6 := G.key 6 _ rfl
          have g7 := G.key 7 _ rfl
          (try dsimp only at g0 g1 g2 g3 g4 g5 g6 g7)
          refine ⟨.agg #[.int .i64 0, .int .u8 0, .int .u8 0, .int .u8 0, .int .u8 0, .int .u8 0, .int .u8 0, .int .i64 n], ?_, rfl⟩
          simp only [ogMk, Act.put, List.setIfInBounds_toArray, List.set_cons_zero, List.set_cons_succ, Nat.zero_add, Nat.reduceAdd, List.take_succ_cons, List.take_zero, List.drop_succ_cons, List.drop_zero]
          simp [execOp, Act.eval, go_sem, g0, g1, g2, g3, g4, g5, g6, g7]
        · refine OgStep.calls ?_ ?_
          · rfl
          intro u W hS hp
          have h3 : u 3 = .slice A3 kn.length c3 := hp ⟨3, .data⟩ (by simp) rfl
          have h4 : u 4 = .int .u32 a := hp ⟨4, .data⟩ (by simp) rfl
          have h5 : u 5 = .agg #[.int .i64 0, .int .u8 0, .int .u8 0, .int .u8 0, .int .u8 0, .int .u8 0, .int .u8 0, .int .i64 n] := hp ⟨5, .data⟩ (by simp) rfl
          refine ⟨37, #[.slice A3 kn.length c3, .int .u32 a, .agg #[.int .i64 0, .int .u8 0, .int .u8 0, .int .u8 0, .int .u8 0, .int .u8 0, .int .u8 0, .int .i64 n]], ?_, calls_tF (tp_k (HPU.out W (R5.out.below hS))) rfl⟩
          simp only [ogMk, Act.put, List.setIfInBounds_toArray, List.set_cons_zero, List.set_cons_succ, Nat.zero_add, Nat.reduceAdd, List.take_succ_cons, List.take_zero, List.drop_succ_cons, List.drop_zero]
          simp [execOp, Act.eval, go_sem, h3, h4, h5]
        · refine OgStep.pure ?_ ?_
          · rfl
          intro u W hS hp
          obtain ⟨A7, c7, e7, h7⟩ : tF Rk ys er (u 6) W := hp ⟨6, .data⟩ (by simp) rfl
          refine ⟨.tuple #[.slice A7 ys.length c7, .int .i64 er], ?_, ⟨A7, c7, rfl, h7⟩⟩
          simp only [ogMk, Act.put, List.setIfInBounds_toArray, List.set_cons_zero, List.set_cons_succ, Nat.zero_add, Nat.reduceAdd, List.take_succ_cons, List.take_zero, List.drop_succ_cons, List.drop_zero]
          simp [execOp, Act.eval, go_sem, e7]
        · refine OgStep.pure ?_ ?_
          · rfl
          intro u W hS hp
          obtain ⟨A7, c7, e7, h7⟩ : tF Rk ys er (u 7) W := hp ⟨7, .data⟩ (by simp) rfl
          refine ⟨.slice A7 ys.length c7, ?_, ⟨A7, c7, rfl, h7⟩⟩
          simp only [ogMk, Act.put, List.setIfInBounds_toArray, List.set_cons_zero, List.set_cons_succ, Nat.zero_add, Nat.reduceAdd, List.take_succ_cons, List.take_zero, List.drop_succ_cons, List.drop_zero]
          simp [execOp, Act.eval, go_sem, e7]
        · refine OgStep.pure ?_ ?_
          · rfl
          intro u W hS hp
          obtain ⟨A7, c7, e7, h7⟩ : tF Rk ys er (u 7) W := hp ⟨7, .data⟩ (by simp) rfl
          refine ⟨.int .i64 er, ?_, rfl⟩
          simp only [ogMk, Act.put, List.setIfInBounds_toArray, List.set_cons_zero, List.set_cons_succ, Nat.zero_add, Nat.reduceAdd, List.take_succ_cons, List.take_zero, List.drop_succ_cons, List.drop_zero]
          simp [execOp, Act.eval, go_sem, e7]
        · refine OgStep.pure ?_ ?_
          · rfl
          intro u W hS hp
          obtain ⟨A7, c7, e7, h7⟩ : rF Rk ys (u 8) W := hp ⟨8, .data⟩ (by simp) rfl
          refine ⟨.slice A7 ys.length c7, ?_, ⟨A7, c7, rfl, h7⟩⟩
          simp only [ogMk, Act.put, List.setIfInBounds_toArray, List.set_cons_zero, List.set_cons_succ, Nat.zero_add, Nat.reduceAdd, List.take_succ_cons, List.take_zero, List.drop_succ_cons, List.drop_zero]
          simp [execOp, Act.eval, go_sem, e7]
        · refine OgStep.pure ?_ ?_
          · rfl
          intro u W hS hp
          have h9 : u 9 = .int .i64 er := hp ⟨9, .data⟩ (by simp) rfl
          refine ⟨.int .i64 er, ?_, rfl⟩
          simp only [ogMk, Act.put, List.setIfInBounds_toArray, List.set_cons_zero, List.set_cons_succ, Nat.zero_add, Nat.reduceAdd, List.take_succ_cons, List.take_zero, List.drop_succ_cons, List.drop_zero]
          simp [execOp, Act.eval, go_sem, h9]
      · intro u W hS hF
        have e0 : u 0 = .pointer (some ⟨b, 0, none⟩) := hF 0 (by decide)
        have e1 : u 1 = .pointer (some ⟨b, 0, none⟩) := hF 1 (by decide)
        have e2 : u 2 = .pointer (some ⟨b, 4, none⟩) := hF 2 (by decide)
        have e3 : u 3 = .slice A3 kn.length c3 := hF 3 (by decide)
        have e4 : u 4 = .int .u32 a := hF 4 (by decide)
        have e5 : u 5 = .agg #[.int .i64 0, .int .u8 0, .int .u8 0, .int .u8 0, .int .u8 0, .int .u8 0, .int .u8 0, .int .i64 n] := hF 5 (by decide)
        have e9 : u 9 = .int .i64 er := hF 9 (by decide)
        have e11 : u 11 = .int .i64 er := hF 11 (by decide)
        obtain ⟨A6, c6, e10, hc6, hR6⟩ : rF Rk ys (u 10) W := hF 10 (by decide)
        simp only [ogMk, Act.put, List.setIfInBounds_toArray, List.set_cons_zero, List.set_cons_succ, Nat.zero_add, Nat.reduceAdd, List.take_succ_cons, List.take_zero, List.drop_succ_cons, List.drop_zero]
        rw [e0, e1, e2, e3, e4, e5, e9, e11, e10]
        clear e0 e1 e2 e3 e4 e5 e9 e11 e10 hF
        have R6 := Lib.hid (R5.out.below hS)
        have S6 := Lib.hid (S5.out.below hS)
        have O6 := Lib.hid (O5.out.trans (Ob.of hS S5.out.lt))
        clear hS R5 S5 O5 X5
        go_wp2_with fail
        refine (rep_k ⟨n, q, hs, sw, kn, pbf, cs⟩ ⟨A1', c1', A2', c2', A3, c3, A4', c4', A5', c5'⟩ A6 ys c6 er b W S6.out R6.out hR6 hc6).mono ?_
        rintro e w7 ⟨rfl, hst, hO⟩
        have O7 := Lib.hid (O6.out.trans hO)
        have HST := Lib.hid hst
        clear hst hO R6 S6 O6 hR6
        by_cases h0 : er = 0
        · subst h0
          rw [upd_ok] at HQ
          have HST := Lib.hid (show ∃ r, Sb w7 b (stl ⟨n, q, hs, sw, ys, pbf, cs⟩ r) ∧ Lie w7 ⟨n, q, hs, sw, ys, pbf, cs⟩ r from by have := HST.out; rw [if_pos rfl] at this; exact this)
          go_wp2_with fail
          obtain ⟨r8, hS, hR⟩ := HST.out
          refine (cancelS_any ⟨n, q, hs, sw, ys, pbf, cs⟩ r8 a b w7 hS hR hc9).mono ?_
          rintro e w9 ⟨rfl, hst, hO⟩
          have O9 := Lib.hid (O7.out.trans hO)
          have HS9 := Lib.hid hst
          clear hst hO hS hR
          go_wp2_with fail
          go_ret
          rw [HQ.out]
          exact ⟨rfl, fun _ => HS9.out, O9.out⟩
        · rw [upd_no h0] at HQ
          go_wp2_with fail
          go_ret
          rw [HQ.out]
          exact ⟨rfl, fun h => absurd h h0, O7.out⟩
  · have HQ0 := HQH.out
    rw [if_neg hf] at HQ0
    simp only [if_neg hf] at HQ0
    clear HQH HLH
    have O5 := Lib.hid O1.out
    have X5 := Lib.hid X1.out
    have S5 := Lib.hid S1.out
    have R5 := Lib.hid R1.out
    simp only [stl] at S5
    have HPU := Lib.hid fun W (hW : Lie W ⟨n, q, hs, sw, kn, pb, cs⟩ ⟨A1, c1, A2, c2, A3, c3, A4, c4, A5, c5⟩) => HPU.out ⟨f, m0, m1, m2, m3, m4, m5, n⟩ A3 c3 W hW.k hW.kc
    obtain ⟨ys, hys⟩ : ∃ ys, Sn.putR kn a ⟨f, m0, m1, m2, m3, m4, m5, n⟩ = ys := ⟨_, rfl⟩
    obtain ⟨er, her⟩ : ∃ er, Sn.putC kn a ⟨f, m0, m1, m2, m3, m4, m5, n⟩ = er := ⟨_, rfl⟩
    rw [hys, her] at HPU HQ0
    simp only [Sn.sv] at HPU
    have HQ := Lib.hid HQ0
    clear HQ0 hys her S1 X1 R1 O1 BW1 HAN
    go_wp2_with fail
    refine wp_region_below [fx (.pointer (some ⟨b, 0, none⟩)), fx (.pointer (some ⟨b, 0, none⟩)), fx (.pointer (some ⟨b, 4, none⟩)), fx (.slice A3 kn.length c3), fx (.int .u32 a), fx (.agg #[.int .i64 f, .int .u8 m0, .int .u8 m1, .int .u8 m2, .int .u8 m3, .int .u8 m4, .int .u8 m5, .int .i64 n]), tF Rk ys er, tF Rk ys er, rF Rk ys, fx (.int .i64 er), rF Rk ys, fx (.int .i64 er)]
      (by kernel_rfl) (by kernel_rfl) (by kernel_rfl) ?_ ?_ ?_
    · simp only [List.mem_cons, List.not_mem_nil, or_false]
      rintro φ (rfl | rfl | rfl | rfl | rfl | rfl | rfl | rfl | rfl | rfl | rfl | rfl)
      all_goals first | exact stable_fx _ | exact stable_rF hld_h _ | exact stable_rF hld_s _ | exact stable_rF hld_k _ | exact stable_rF hld_p _ | exact stable_rF hld_c _ | exact stable_tF hld_h _ _ | exact stable_tF hld_s _ _ | exact stable_tF hld_k _ _ | exact stable_tF hld_p _ _ | exact stable_tF hld_c _ _
    · refine OgSteps.cons ?_ (OgSteps.cons ?_ (OgSteps.cons ?_ (OgSteps.cons ?_ (OgSteps.cons ?_ (OgSteps.cons ?_ (OgSteps.cons ?_ (OgSteps.cons ?_ (OgSteps.cons ?_ (OgSteps.cons ?_ (OgSteps.cons ?_ (OgSteps.cons ?_ (OgSteps.nil))))))))))))
      · refine OgStep.pure ?_ ?_
        · rfl
        intro u W hS hp
        refine ⟨.pointer (some ⟨b, 0, none⟩), ?_, rfl⟩
        simp only [ogMk, Act.put, List.setIfInBounds_toArray, List.set_cons_zero, List.set_cons_succ, Nat.zero_add, Nat.reduceAdd, List.take_succ_cons, List.take_zero, List.drop_succ_cons, List.drop_zero]
        simp [execOp, Act.eval, go_sem]
      · refine OgStep.pure ?_ ?_
        · rfl
        intro u W hS hp
        have h0 : u 0 = .pointer (some ⟨b, 0, none⟩) := hp ⟨0, .data⟩ (by simp) rfl
        refine ⟨.pointer (some ⟨b, 0, none⟩), ?_, rfl⟩
        simp only [ogMk, Act.put, List.setIfInBounds_toArray, List.set_cons_zero, List.set_cons_succ, Nat.zero_add, Nat.reduceAdd, List.take_succ_cons, List.take_zero, List.drop_succ_cons, List.drop_zero]
        simp [execOp, Act.eval, go_sem, h0]
      · refine OgStep.pure ?_ ?_
        · rfl
        intro u W hS hp
        have h1 : u 1 = .pointer (some ⟨b, 0, none⟩) := hp ⟨1, .data⟩ (by simp) rfl
        refine ⟨.pointer (some ⟨b, 4, none⟩), ?_, rfl⟩
        simp only [ogMk, Act.put, List.setIfInBounds_toArray, List.set_cons_zero, List.set_cons_succ, Nat.zero_add, Nat.reduceAdd, List.take_succ_cons, List.take_zero, List.drop_succ_cons, List.drop_zero]
        simp [execOp, Act.eval, go_sem, h1]
      · refine OgStep.pure ?_ ?_
        · rfl
        intro u W hS hp
        have h2 : u 2 = .pointer (some ⟨b, 4, none⟩) := hp ⟨2, .data⟩ (by simp) rfl
        have k4 := (S5.out.below hS).cx.key 4 _ rfl
        (try dsimp only at k4)
        refine ⟨.slice A3 kn.length c3, ?_, rfl⟩
        simp only [ogMk, Act.put, List.setIfInBounds_toArray, List.set_cons_zero, List.set_cons_succ, Nat.zero_add, Nat.reduceAdd, List.take_succ_cons, List.take_zero, List.drop_succ_cons, List.drop_zero]
        simp [execOp, Act.eval, go_sem, h2, k4]
      · refine OgStep.pure ?_ ?_
        · rfl
        intro u W hS hp
        refine ⟨.int .u32 a, ?_, rfl⟩
        simp only [ogMk, Act.put, List.setIfInBounds_toArray, List.set_cons_zero, List.set_cons_succ, Nat.zero_add, Nat.reduceAdd, List.take_succ_cons, List.take_zero, List.drop_succ_cons, List.drop_zero]
        simp [execOp, Act.eval, go_sem]
      · refine OgStep.pure ?_ ?_
        · rfl
        intro u W hS hp
        have G := Cx.below X5.out hS
        have g0 := G.key 0 _ rfl
        have g1 := G.key 1 _ rfl
        have g2 := G.key 2 _ rfl
        have g3 := G.key 3 _ rfl
        have g4 := G.key 4 _ rfl
        have g5 := G.key 5 _ rfl
        have g6 := G.key 6 _ rfl
        have g7 := G.key 7 _ rfl
        (try dsimp only at g0 g1 g2 g3 g4 g5 g6 g7)
        refine ⟨.agg #[.int .i64 f, .int .u8 m0, .int .u8 m1, .int .u8 m2, .int .u8 m3, .int .u8 m4, .int .u8 m5, .int .i64 n], ?_, rfl⟩
        simp only [ogMk, Act.put, List.setIfInBounds_toArray, List.set_cons_zero, List.set_cons_succ, Nat.zero_add, Nat.reduceAdd, List.take_succ_cons, List.take_zero, List.drop_succ_cons, List.drop_zero]
        simp [execOp, Act.eval, go_sem, g0, g1, g2, g3, g4, g5, g6, g7]
      · refine OgStep.calls ?_ ?_
        · rfl
        intro u W hS hp
        have h3 : u 3 = .slice A3 kn.length c3 := hp ⟨3, .data⟩ (by simp) rfl
        have h4 : u 4 = .int .u32 a := hp ⟨4, .data⟩ (by simp) rfl
        have h5 : u 5 = .agg #[.int .i64 f, .int .u8 m0, .int .u8 m1, .int .u8 m2, .int .u8 m3, .int .u8 m4, .int .u8 m5, .int .i64 n] := hp ⟨5, .data⟩ (by simp) rfl
        refine ⟨37, #[.slice A3 kn.length c3, .int .u32 a, .agg #[.int .i64 f, .int .u8 m0, .int .u8 m1, .int .u8 m2, .int .u8 m3, .int .u8 m4, .int .u8 m5, .int .i64 n]], ?_, calls_tF (tp_k (HPU.out W (R5.out.below hS))) rfl⟩
        simp only [ogMk, Act.put, List.setIfInBounds_toArray, List.set_cons_zero, List.set_cons_succ, Nat.zero_add, Nat.reduceAdd, List.take_succ_cons, List.take_zero, List.drop_succ_cons, List.drop_zero]
        simp [execOp, Act.eval, go_sem, h3, h4, h5]
      · refine OgStep.pure ?_ ?_
        · rfl
        intro u W hS hp
        obtain ⟨A7, c7, e7, h7⟩ : tF Rk ys er (u 6) W := hp ⟨6, .data⟩ (by simp) rfl
        refine ⟨.tuple #[.slice A7 ys.length c7, .int .i64 er], ?_, ⟨A7, c7, rfl, h7⟩⟩
        simp only [ogMk, Act.put, List.setIfInBounds_toArray, List.set_cons_zero, List.set_cons_succ, Nat.zero_add, Nat.reduceAdd, List.take_succ_cons, List.take_zero, List.drop_succ_cons, List.drop_zero]
        simp [execOp, Act.eval, go_sem, e7]
      · refine OgStep.pure ?_ ?_
        · rfl
        intro u W hS hp
        obtain ⟨A7, c7, e7, h7⟩ : tF Rk ys er (u 7) W := hp ⟨7, .data⟩ (by simp) rfl
        refine ⟨.slice A7 ys.length c7, ?_, ⟨A7, c7, rfl, h7⟩⟩
        simp only [ogMk, Act.put, List.setIfInBounds_toArray, List.set_cons_zero, List.set_cons_succ, Nat.zero_add, Nat.reduceAdd, List.take_succ_cons, List.take_zero, List.drop_succ_cons, List.drop_zero]
        simp [execOp, Act.eval, go_sem, e7]
      · refine OgStep.pure ?_ ?_
        · rfl
        intro u W hS hp
        obtain ⟨A7, c7, e7, h7⟩ : tF Rk ys er (u 7) W := hp ⟨7, .data⟩ (by simp) rfl
        refine ⟨.int .i64 er, ?_, rfl⟩
        simp only [ogMk, Act.put, List.setIfInBounds_toArray, List.set_cons_zero, List.set_cons_succ, Nat.zero_add, Nat.reduceAdd, List.take_succ_cons, List.take_zero, List.drop_succ_cons, List.drop_zero]
        simp [execOp, Act.eval, go_sem, e7]
      · refine OgStep.pure ?_ ?_
        · rfl
        intro u W hS hp
        obtain ⟨A7, c7, e7, h7⟩ : rF Rk ys (u 8) W := hp ⟨8, .data⟩ (by simp) rfl
        refine ⟨.slice A7 ys.length c7, ?_, ⟨A7, c7, rfl, h7⟩⟩
        simp only [ogMk, Act.put, List.setIfInBounds_toArray, List.set_cons_zero, List.set_cons_succ, Nat.zero_add, Nat.reduceAdd, List.take_succ_cons, List.take_zero, List.drop_succ_cons, List.drop_zero]
        simp [execOp, Act.eval, go_sem, e7]
      · refine OgStep.pure ?_ ?_
        · rfl
        intro u W hS hp
        have h9 : u 9 = .int .i64 er := hp ⟨9, .data⟩ (by simp) rfl
        refine ⟨.int .i64 er, ?_, rfl⟩
        simp only [ogMk, Act.put, List.setIfInBounds_toArray, List.set_cons_zero, List.set_cons_succ, Nat.zero_add, Nat.reduceAdd, List.take_succ_cons, List.take_zero, List.drop_succ_cons, List.drop_zero]
        simp [execOp, Act.eval, go_sem, h9]
    · intro u W hS hF
      have e0 : u 0 = .pointer (some ⟨b, 0, none⟩) := hF 0 (by decide)
      have e1 : u 1 = .pointer (some ⟨b, 0, none⟩) := hF 1 (by decide)
      have e2 : u 2 = .pointer (some ⟨b, 4, none⟩) := hF 2 (by decide)
      have e3 : u 3 = .slice A3 kn.length c3 := hF 3 (by decide)
      have e4 : u 4 = .int .u32 a := hF 4 (by decide)
      have e5 : u 5 = .agg #[.int .i64 f, .int .u8 m0, .int .u8 m1, .int .u8 m2, .int .u8 m3, .int .u8 m4, .int .u8 m5, .int .i64 n] := hF 5 (by decide)
      have e9 : u 9 = .int .i64 er := hF 9 (by decide)
      have e11 : u 11 = .int .i64 er := hF 11 (by decide)
      obtain ⟨A6, c6, e10, hc6, hR6⟩ : rF Rk ys (u 10) W := hF 10 (by decide)
      simp only [ogMk, Act.put, List.setIfInBounds_toArray, List.set_cons_zero, List.set_cons_succ, Nat.zero_add, Nat.reduceAdd, List.take_succ_cons, List.take_zero, List.drop_succ_cons, List.drop_zero]
      rw [e0, e1, e2, e3, e4, e5, e9, e11, e10]
      clear e0 e1 e2 e3 e4 e5 e9 e11 e10 hF
      have R6 := Lib.hid (R5.out.below hS)
      have S6 := Lib.hid (S5.out.below hS)
      have O6 := Lib.hid (O5.out.trans (Ob.of hS S5.out.lt))
      clear hS R5 S5 O5 X5
      go_wp2_with fail
      refine (rep_k ⟨n, q, hs, sw, kn, pb, cs⟩ ⟨A1, c1, A2, c2, A3, c3, A4, c4, A5, c5⟩ A6 ys c6 er b W S6.out R6.out hR6 hc6).mono ?_
      rintro e w7 ⟨rfl, hst, hO⟩
      have O7 := Lib.hid (O6.out.trans hO)
      have HST := Lib.hid hst
      clear hst hO R6 S6 O6 hR6
      by_cases h0 : er = 0
      · subst h0
        rw [upd_ok] at HQ
        have HST := Lib.hid (show ∃ r, Sb w7 b (stl ⟨n, q, hs, sw, ys, pb, cs⟩ r) ∧ Lie w7 ⟨n, q, hs, sw, ys, pb, cs⟩ r from by have := HST.out; rw [if_pos rfl] at this; exact this)
        go_wp2_with fail
        obtain ⟨r8, hS, hR⟩ := HST.out
        refine (cancelS_any ⟨n, q, hs, sw, ys, pb, cs⟩ r8 a b w7 hS hR hc9).mono ?_
        rintro e w9 ⟨rfl, hst, hO⟩
        have O9 := Lib.hid (O7.out.trans hO)
        have HS9 := Lib.hid hst
        clear hst hO hS hR
        go_wp2_with fail
        go_ret
        rw [HQ.out]
        exact ⟨rfl, fun _ => HS9.out, O9.out⟩
      · rw [upd_no h0] at HQ
        go_wp2_with fail
        go_ret
        rw [HQ.out]
        exact ⟨rfl, fun h => absurd h h0, O7.out⟩
end Go.Proofs.YtilneflfeegnfaaGreat
