/-
  Part of the proof: several texts in one file. No condition of its own.
-/
import Derived.Test.YtilneflfeegnfaaGreatPQe
import Derived.Test.YtilneflfeegnfaaGreatRows
import Derived.ProofKit
import Derived.OpenShut
import Derived.ShutString
import Derived.Deep.Fields
import Derived.ChangeSame
import Derived.ChangeOld
import Derived.SizedLaws
import Derived.Test.YtilneflfeegnfaaGreatPQa
import Derived.Deep.RegionWith
import Derived.BigQuiet
import Derived.BigGuard
set_option linter.unusedSimpArgs false
set_option linter.unusedVariables false
namespace Go.Proofs.YtilneflfeegnfaaGreat
open Go.RowKit
theorem Ob.setCell {b : Nat} {w w' : World} (h : Ob b w w') {a : Addr} (ha : w.heap.size ≤ a.block) (hb : b < w.heap.size) (v : Value) : Ob b w (w'.setCell a v) :=
  ⟨h.bel.setCell (by omega) v, fun k h1 h2 => (Below.heap_setCell w' a v k (by omega)).trans (h.oth k h1 h2)⟩
theorem cloneS_sF (A : Option Addr) (xs : List Sn.Sg) (c : Nat) (w : World) (h : Rw Sn.eS w A xs) (hn : xs.length ≤ 1000000) (hc : xs.length ≤ c) : Calls Tryz.prog 53 #[.slice A xs.length c] w (Sn.SPost w xs) := (Sn.cloneS_any A xs c w h hn hc).mono fun _ _ k => Sn.OwnPost.s k (by omega)
set_option maxRecDepth 100000 in
set_option maxHeartbeats 8000000 in
theorem copied_any (x : Stt) (r : Rws) (w : World) (h : Lie w x r) (hz : Sz x) : Calls Tryz.prog 26 #[stv x r] w (StPost w x) := by
  have HBD := Lib.hid hz.k
  have z1 := hz.h
  have z2 := hz.s
  have z4 := hz.p
  have z5 := hz.c
  have z3 := hz.k.1
  have R := Lib.hid h
  obtain ⟨n, q, hs, sw, kn, pb, cs⟩ := x
  obtain ⟨A1, c1, A2, c2, A3, c3, A4, c4, A5, c5⟩ := r
  have HB0 := Lib.hid (show Below w.heap.size w ((w.alloc (Stx ⟨n, q, hs, sw, kn, pb, cs⟩ ⟨A1, c1, A2, c2, A3, c3, A4, c4, A5, c5⟩)).alloc (Stx zst zrw)) from ((Below.refl _ w).alloc (Nat.le_refl _) _).alloc (by simp) _)
  have S0 := Lib.hid ((sb_box w ⟨n, q, hs, sw, kn, pb, cs⟩ ⟨A1, c1, A2, c2, A3, c3, A4, c4, A5, c5⟩).below ((Below.refl _ _).alloc (Nat.le_refl _) (Stx zst zrw)))
  have Z0 := Lib.hid (sb_box (w.alloc (Stx ⟨n, q, hs, sw, kn, pb, cs⟩ ⟨A1, c1, A2, c2, A3, c3, A4, c4, A5, c5⟩)) zst zrw)
  have R0 := Lib.hid (R.out.below HB0.out)
  have e1 : (w.alloc (Stx ⟨n, q, hs, sw, kn, pb, cs⟩ ⟨A1, c1, A2, c2, A3, c3, A4, c4, A5, c5⟩)).heap.size = w.heap.size + 1 := by simp
  rw [e1] at Z0
  simp only [stv]
  dsimp only at z1 z2 z3 z4 z5 HBD
  simp only [Stx, stl, zst, zrw, List.length_nil] at HB0 S0 Z0 R0
  have kk := S0.out.cx.key 2 _ rfl
  (try dsimp only at kk)
  clear h e1 hz R
  go_enter Tryz.func26, Tryz.ntmps26
  go_wp2_with fail
  change Calls _ _ _ ((w.alloc (.cells #[.int .i64 n, .int .i64 q, .slice A1 hs.length c1, .slice A2 sw.length c2, .slice A3 kn.length c3, .slice A4 pb.length c4, .slice A5 cs.length c5] 35)).alloc (.cells #[.int .i64 0, .int .i64 0, .slice none 0 0, .slice none 0 0, .slice none 0 0, .slice none 0 0, .slice none 0 0] 35)) _
  generalize (w.alloc (.cells #[.int .i64 n, .int .i64 q, .slice A1 hs.length c1, .slice A2 sw.length c2, .slice A3 kn.length c3, .slice A4 pb.length c4, .slice A5 cs.length c5] 35)).alloc (.cells #[.int .i64 0, .int .i64 0, .slice none 0 0, .slice none 0 0, .slice none 0 0, .slice none 0 0, .slice none 0 0] 35) = W0 at *
  refine (cloneH A1 hs c1 _ R0.out.h (by omega) R0.out.hc).mono ?_
  rintro e v1 ⟨D1, e1, rfl, hd1, hr, hb⟩
  have R1' := Lib.hid (R0.out.below hb)
  have S1' := Lib.hid (S0.out.below hb)
  have Z1' := Lib.hid (Z0.out.below hb)
  have B1' := Lib.hid (bthen HB0.out hb HB0.out.size)
  have hr1 := Lib.hid hr
  clear kk hb hr R0 S0 Z0 HB0
  go_wp2_with (refine at_fieldSt 29 _ _ w.heap.size [.int .i64 n, .int .i64 q] (.slice A1 hs.length c1) (.slice D1 hs.length e1) [.slice A2 sw.length c2, .slice A3 kn.length c3, .slice A4 pb.length c4, .slice A5 cs.length c5] S1'.out sizeRh rfl (ns_sl _ _ _) rfl rfl rfl rfl rfl ?_)
  intro w1 S1 hb1 hk1
  have R1 := Lib.hid (R1'.out.apart S1'.out.bs hk1.out)
  have Z1 := Lib.hid (Z1'.out.other hk1.out (by omega))
  have HB1 := Lib.hid (B1'.out.trans (hb1.out _ (Nat.le_refl _)))
  have hr1 := Lib.hid (hs_apart hr1.out S1'.out.bs hk1.out)
  clear hb1 hk1 R1' S1' Z1' B1'
  have kk := S1.out.cx.key 3 _ rfl
  (try dsimp only at kk)
  go_wp2_with fail
  refine (cloneW A2 sw c2 _ R1.out.s (by omega) R1.out.sc).mono ?_
  rintro e v2 ⟨D2, e2, rfl, hd2, hr, hb⟩
  have R2' := Lib.hid (R1.out.below hb)
  have S2' := Lib.hid (S1.out.below hb)
  have Z2' := Lib.hid (Z1.out.below hb)
  have B2' := Lib.hid (bthen HB1.out hb HB1.out.size)
  have hr2 := Lib.hid hr
  have hr1 := Lib.hid (hld_h _ _ _ _ hr1.out hb)
  clear kk hb hr R1 S1 Z1 HB1
  go_wp2_with (refine at_fieldSt 30 _ _ w.heap.size [.int .i64 n, .int .i64 q, .slice D1 hs.length e1] (.slice A2 sw.length c2) (.slice D2 sw.length e2) [.slice A3 kn.length c3, .slice A4 pb.length c4, .slice A5 cs.length c5] S2'.out sizeRs rfl (ns_sl _ _ _) rfl rfl rfl rfl rfl ?_)
  intro w2 S2 hb2 hk2
  have R2 := Lib.hid (R2'.out.apart S2'.out.bs hk2.out)
  have Z2 := Lib.hid (Z2'.out.other hk2.out (by omega))
  have HB2 := Lib.hid (B2'.out.trans (hb2.out _ (Nat.le_refl _)))
  have hr2 := Lib.hid (rw_apart mk_W hr2.out S2'.out.bs hk2.out)
  have hr1 := Lib.hid (hs_apart hr1.out S2'.out.bs hk2.out)
  clear hb2 hk2 R2' S2' Z2' B2'
  obtain ⟨xs, hxp, hK⟩ := R2.out.k
  dsimp only at hxp hK
  have hxl : xs.length = kn.length := by rw [← hxp, List.length_map]
  have HC := Lib.hid (Sn.cloneK_any A3 xs c3 w2 hK.1 (by omega) (by have := R2.out.kc; dsimp only at this; omega))
  rw [hxl] at HC
  have HXP := Lib.hid hxp
  have HKI := Lib.hid hK.2
  obtain ⟨L, hL⟩ : ∃ L, kn.length = L := ⟨_, rfl⟩
  have HL := Lib.hid hL
  have HXL := Lib.hid (hxl.trans hL)
  rw [hL] at z3 HC S2
  clear hL hxl hxp hK
  have kk := S2.out.cx.key 4 _ rfl
  (try dsimp only at kk)
  go_wp2_with fail
  refine HC.out.mono ?_
  rintro e v3 ⟨vv, rfl, ho, hb⟩
  obtain ⟨D3, e3, rfl, hlc, hmc, -, -, -⟩ := own_rw (E := Sn.eK) ho (by rw [HXL.out]; omega)
  rw [HXL.out] at hlc ho ⊢
  have O3' := Ob.of hb S2.out.lt
  have S3' := Lib.hid (S2.out.below hb)
  have LB := Lib.hid (show w.heap.size < w2.heap.size from S2.out.lt)
  have HIN3 := fun y hy => (HKI.out y hy).below hb
  have HMC := Lib.hid hmc
  have HLC := Lib.hid hlc
  clear kk hmc
  go_wp2_with (refine at_fieldSt 31 _ _ w.heap.size [.int .i64 n, .int .i64 q, .slice D1 hs.length e1, .slice D2 sw.length e2] (.slice A3 L c3) (.slice D3 L e3) [.slice A4 pb.length c4, .slice A5 cs.length c5] S3'.out sizeRk rfl (ns_sl _ _ _) rfl rfl rfl rfl rfl ?_)
  intro w3 S3 hb3 hk3
  have P3 := Ob.put hb3.out hk3.out
  have OB3 := Lib.hid (O3'.trans P3)
  have HR := Lib.hid (show ∃ ys, ys.map Sn.Kn.p = kn ∧ w3.ownsRow w2.heap.size 66 2 (.slice D3 L e3) L (Sn.eK.cs ys) ∧ (∀ y ∈ ys, y.In w3) from
    ⟨xs, HXP.out, own_ob ho P3 LB.out, fun y hy => ⟨(HIN3 y hy).a0, (HIN3 y hy).a1, rw_apart mk_S (HIN3 y hy).lies S3'.out.bs hk3.out, (HIN3 y hy).le, (HIN3 y hy).max⟩⟩)
  clear hb3 hk3 P3 HIN3 ho O3' S3' HC HKI hlc hb
  have kk := S3.out.cx.key 4 _ rfl
  (try dsimp only at kk)
  go_wp2_with fail
  go_loopw [20] (fun i wr => ∃ k : Nat, i = .int .i64 k ∧ k ≤ L ∧ Hid (∃ ys, ys.map Sn.Kn.p = kn ∧ wr.ownsRow w2.heap.size 66 2 (.slice D3 L e3) L (Sn.eK.cs ys) ∧ (∀ y ∈ ys, y.In wr) ∧ Ob w.heap.size w2 wr ∧ Below w2.heap.size w3 wr)) (fun i _ => L - (intOf i).toNat)
  case atStart => exact ⟨0, rfl, by omega, Lib.hid (by obtain ⟨ys, h1, h2, h3⟩ := HR.out; exact ⟨ys, h1, h2, h3, OB3.out, Below.refl _ _⟩)⟩
  case round =>
    obtain ⟨k, rfl, hk, HH⟩ := hrel
    clear HR kk
    by_cases hlt : k < L
    · obtain ⟨ys, h1, h2, h3, h4, h5⟩ := HH.out
      obtain ⟨g, cap', hv, hg1, hg2⟩ := h2.form (by omega)
      obtain ⟨rfl, rfl⟩ : D3 = some ⟨g, 0, none⟩ ∧ e3 = cap' := by simpa using hv
      have hyl : ys.length = L := by rw [← HL.out, ← h1, List.length_map]
      obtain ⟨y, hy⟩ : ∃ y, ys[k]? = some y := ⟨_, List.getElem?_eq_getElem (by omega)⟩
      obtain ⟨A9, c9, hv9, -, -, -, hr9, -⟩ := own_rw (E := Sn.eK) h2 (by omega)
      obtain ⟨rfl, -, rfl⟩ : some ⟨g, 0, none⟩ = A9 ∧ L = ys.length ∧ e3 = c9 := by simpa using hv9
      have hat : ∀ j v, (Sn.kl y)[j]? = some v → wr.cell? ((⟨g, k * 2, none⟩ : Addr).add j) = some v := fun j v hv => by
        have := hr9.at hy j v hv
        rwa [show ((⟨g, 0, none⟩ : Addr).add (k * Sn.eK.N)) = ⟨g, k * 2, none⟩ by rw [Addr.add_mid, Nat.zero_add]; rfl] at this
      have hym := h3 y (List.mem_of_getElem? hy)
      have hyb : y.ss.length ≤ 1000 := HBD.out.2 y.p (by rw [← h1]; exact List.mem_map_of_mem (List.mem_of_getElem? hy))
      have BZ := Lib.hid (show Below wr.heap.size wr (wr.alloc (.cells #[.int .u32 y.a, .slice y.P y.ss.length y.c] 66)) from (Below.refl _ _).alloc (Nat.le_refl _) _)
      have zz : (wr.alloc (.cells #[.int .u32 y.a, .slice y.P y.ss.length y.c] 66)).cell? ⟨wr.heap.size, 1, none⟩ = some (.slice y.P y.ss.length y.c) := by simp
      have zl : wr.heap.size < (wr.alloc (.cells #[.int .u32 y.a, .slice y.P y.ss.length y.c] 66)).heap.size := by simp
      have ZB := Lib.hid fun W (hS : Below (wr.alloc (.cells #[.int .u32 y.a, .slice y.P y.ss.length y.c] 66)).heap.size (wr.alloc (.cells #[.int .u32 y.a, .slice y.P y.ss.length y.c] 66)) W) => (hS.cell (p := ⟨wr.heap.size, 1, none⟩) zl).trans zz
      have HIN := Lib.hid (hym.below BZ.out)
      have HCL := Lib.hid fun W (hW : y.In W) => cloneS_sF y.P y.ss y.c W hW.lies (by omega) hW.le
      have H9 := Lib.hid (show ys.map Sn.Kn.p = kn ∧ (wr.alloc (.cells #[.int .u32 y.a, .slice y.P y.ss.length y.c] 66)).ownsRow w2.heap.size 66 2 (.slice (some ⟨g, 0, none⟩) L e3) L (Sn.eK.cs ys) ∧ (∀ y0 ∈ ys, y0.In (wr.alloc (.cells #[.int .u32 y.a, .slice y.P y.ss.length y.c] 66))) ∧ Ob w.heap.size w2 (wr.alloc (.cells #[.int .u32 y.a, .slice y.P y.ss.length y.c] 66)) ∧ Below w2.heap.size w3 (wr.alloc (.cells #[.int .u32 y.a, .slice y.P y.ss.length y.c] 66)) from
        ⟨h1, own_keep h2 BZ.out, fun y' hy' => (h3 y' hy').below BZ.out, h4.trans (Ob.of BZ.out (Nat.lt_of_lt_of_le LB.out h4.size)), h5.trans (BZ.out.mono h4.size)⟩)
      have HY := Lib.hid hy
      have S9 := Lib.hid (S3.out.keep H9.out.2.2.2.2 LB.out)
      have HG := Lib.hid (show w2.heap.size ≤ g ∧ g < (wr.alloc (.cells #[.int .u32 y.a, .slice y.P y.ss.length y.c] 66)).heap.size from ⟨hg1, by have := hg2; simp; omega⟩)
      clear HH h1 h2 h3 h4 h5 hv hyl hy hym hyb zz zl hv9 hr9
      go_wp2_with (refine Sn.at_load53 (.tmp 23) rfl rfl (⟨g, k * 2, none⟩ : Addr) y rfl hat ?_)
      change (Code.region _ _ _).wp _ _ _ (wr.alloc (.cells #[.int .u32 y.a, .slice y.P y.ss.length y.c] 66))
      generalize wr.alloc (.cells #[.int .u32 y.a, .slice y.P y.ss.length y.c] 66) = w5 at *
      refine wp_region_below_tail 6 [fx (.pointer (some ⟨w.heap.size, 4, none⟩)), fx (.slice (some ⟨g, 0, none⟩) L e3), fx (.int .i64 (k : Int)), fx (.pointer (some ⟨wr.heap.size, 1, none⟩)), fx (.slice y.P y.ss.length y.c), Sn.sF y.ss]
        (by kernel_rfl) (by simp) (by kernel_rfl) (by kernel_rfl) (by kernel_rfl) ?_ ?_ ?_
      · simp only [List.mem_cons, List.not_mem_nil, or_false]
        rintro φ (rfl | rfl | rfl | rfl | rfl | rfl)
        all_goals first | exact stable_fx _ | exact stable_rF hld_h _ | exact stable_rF hld_s _ | exact stable_rF hld_k _ | exact stable_rF hld_p _ | exact stable_rF hld_c _ | exact stable_tF hld_h _ _ | exact stable_tF hld_s _ _ | exact stable_tF hld_k _ _ | exact stable_tF hld_p _ _ | exact stable_tF hld_c _ _ | exact Sn.stable_sF _
      · refine OgSteps.cons ?_ (OgSteps.cons ?_ (OgSteps.cons ?_ (OgSteps.cons ?_ (OgSteps.cons ?_ (OgSteps.cons ?_ (OgSteps.nil))))))
        · refine OgStep.pure ?_ ?_
          · rfl
          intro u W hS hp
          refine ⟨.pointer (some ⟨w.heap.size, 4, none⟩), ?_, rfl⟩
          simp only [ogMk, Act.put, List.setIfInBounds_toArray, List.set_cons_zero, List.set_cons_succ, Nat.zero_add, Nat.reduceAdd, List.take_succ_cons, List.take_zero, List.drop_succ_cons, List.drop_zero]
          simp [execOp, Act.eval, go_sem]
        · refine OgStep.pure ?_ ?_
          · rfl
          intro u W hS hp
          have h0 : u 0 = .pointer (some ⟨w.heap.size, 4, none⟩) := hp ⟨0, .data⟩ (by simp) rfl
          have k4 := (S9.out.below hS).cx.key 4 _ rfl
          (try dsimp only at k4)
          refine ⟨.slice (some ⟨g, 0, none⟩) L e3, ?_, rfl⟩
          simp only [ogMk, Act.put, List.setIfInBounds_toArray, List.set_cons_zero, List.set_cons_succ, Nat.zero_add, Nat.reduceAdd, List.take_succ_cons, List.take_zero, List.drop_succ_cons, List.drop_zero]
          simp [execOp, Act.eval, go_sem, h0, k4]
        · refine OgStep.pure ?_ ?_
          · rfl
          intro u W hS hp
          refine ⟨.int .i64 (k : Int), ?_, rfl⟩
          simp only [ogMk, Act.put, List.setIfInBounds_toArray, List.set_cons_zero, List.set_cons_succ, Nat.zero_add, Nat.reduceAdd, List.take_succ_cons, List.take_zero, List.drop_succ_cons, List.drop_zero]
          simp [execOp, Act.eval, go_sem]
        · refine OgStep.pure ?_ ?_
          · rfl
          intro u W hS hp
          refine ⟨.pointer (some ⟨wr.heap.size, 1, none⟩), ?_, rfl⟩
          simp only [ogMk, Act.put, List.setIfInBounds_toArray, List.set_cons_zero, List.set_cons_succ, Nat.zero_add, Nat.reduceAdd, List.take_succ_cons, List.take_zero, List.drop_succ_cons, List.drop_zero]
          simp [execOp, Act.eval, go_sem]
        · refine OgStep.pure ?_ ?_
          · rfl
          intro u W hS hp
          have h3 : u 3 = .pointer (some ⟨wr.heap.size, 1, none⟩) := hp ⟨3, .data⟩ (by simp) rfl
          have z1 := ZB.out W hS
          refine ⟨.slice y.P y.ss.length y.c, ?_, rfl⟩
          simp only [ogMk, Act.put, List.setIfInBounds_toArray, List.set_cons_zero, List.set_cons_succ, Nat.zero_add, Nat.reduceAdd, List.take_succ_cons, List.take_zero, List.drop_succ_cons, List.drop_zero]
          simp [execOp, Act.eval, go_sem, h3, z1]
        · refine OgStep.calls ?_ ?_
          · rfl
          intro u W hS hp
          have h4 : u 4 = .slice y.P y.ss.length y.c := hp ⟨4, .data⟩ (by simp) rfl
          refine ⟨53, #[.slice y.P y.ss.length y.c], ?_, Sn.calls_sF (HCL.out W (HIN.out.below hS)) rfl⟩
          simp only [ogMk, Act.put, List.setIfInBounds_toArray, List.set_cons_zero, List.set_cons_succ, Nat.zero_add, Nat.reduceAdd, List.take_succ_cons, List.take_zero, List.drop_succ_cons, List.drop_zero]
          simp [execOp, Act.eval, go_sem, h4]
      · intro u W hS hF
        have e0 : u 0 = .pointer (some ⟨w.heap.size, 4, none⟩) := hF 0 (by decide)
        have e1 : u 1 = .slice (some ⟨g, 0, none⟩) L e3 := hF 1 (by decide)
        have e2 : u 2 = .int .i64 (k : Int) := hF 2 (by decide)
        have e3 : u 3 = .pointer (some ⟨wr.heap.size, 1, none⟩) := hF 3 (by decide)
        have e4 : u 4 = .slice y.P y.ss.length y.c := hF 4 (by decide)
        obtain ⟨A2', c2', e5, hlc2, hr2'⟩ : Sn.sF y.ss (u 5) W := hF 5 (by decide)
        simp only [ogMk, Act.put, List.setIfInBounds_toArray, List.set_cons_zero, List.set_cons_succ, Nat.zero_add, Nat.reduceAdd, List.take_succ_cons, List.take_zero, List.drop_succ_cons, List.drop_zero]
        rw [e0, e1, e2, e3, e4, e5]
        clear e0 e1 e2 e3 e4 e5 hF
        obtain ⟨h1, h2, h3, h4, h5⟩ := H9.out
        have hy := HY.out
        have c0 : w5.cell? ⟨g, k * 2 + 1, none⟩ = some (.slice y.P y.ss.length y.c) := by
          have := h2.cells (g := g) rfl _ _ (Sn.cs_slice hy)
          rwa [Addr.add_mid, Nat.zero_add] at this
        have d0 : W.cell? ⟨g, k * 2 + 1, none⟩ = some (.slice y.P y.ss.length y.c) := by rw [hS.cell (p := ⟨g, k * 2 + 1, none⟩) HG.out.2]; exact c0
        have d1 : W.frozen? ⟨g, k * 2 + 1, none⟩ = false := by rw [hS.frozen (p := ⟨g, k * 2 + 1, none⟩) HG.out.2]; exact h2.frozenAt _
        have hz : (⟨y.a, A2', c2', y.ss⟩ : Sn.Kn).In W := ⟨(h3 y (List.mem_of_getElem? hy)).a0, (h3 y (List.mem_of_getElem? hy)).a1, hr2'.2, hlc2, hr2'.1⟩
        have HN := Lib.hid (show ∃ zs, zs.map Sn.Kn.p = kn ∧ (W.setCell ⟨g, k * 2 + 1, none⟩ (.slice A2' y.ss.length c2')).ownsRow w2.heap.size 66 2 (.slice (some ⟨g, 0, none⟩) L e3) L (Sn.eK.cs zs) ∧ (∀ z ∈ zs, z.In (W.setCell ⟨g, k * 2 + 1, none⟩ (.slice A2' y.ss.length c2'))) ∧ Ob w.heap.size w2 (W.setCell ⟨g, k * 2 + 1, none⟩ (.slice A2' y.ss.length c2')) ∧ Below w2.heap.size w3 (W.setCell ⟨g, k * 2 + 1, none⟩ (.slice A2' y.ss.length c2')) from by
          refine ⟨ys.set k ⟨y.a, A2', c2', y.ss⟩, ?_, ?_, ?_, ?_, ?_⟩
          · rw [Sn.map_set (z := ⟨y.a, A2', c2', y.ss⟩) hy rfl, h1]
          · rw [Sn.cs_set (z := ⟨y.a, A2', c2', y.ss⟩) hy rfl]
            exact ((own_keep h2 hS).stored _ _).1
          · intro z hz'
            rcases List.mem_or_eq_of_mem_set hz' with hz' | rfl
            · exact Sn.kn_stored ((h3 z hz').below hS) d0 _
            · exact Sn.kn_stored hz d0 _
          · exact (h4.trans (Ob.of hS (Nat.lt_of_lt_of_le LB.out h4.size))).setCell HG.out.1 LB.out _
          · exact (h5.trans (hS.mono h4.size)).setCell HG.out.1 _)
        clear hS h1 h2 h3 h4 h5 hy hz hr2' c0 H9
        go_wp2_with fail
        go_roundw
        case rel => exact ⟨k + 1, by go_num, by omega, HN⟩
        case measure => simp [intOf]; omega
    · obtain rfl : k = L := by omega
      obtain ⟨ys, h1, h2, h3, h4, h5⟩ := HH.out
      have hyl : ys.length = k := by rw [← HL.out, ← h1, List.length_map]
      obtain ⟨A9, c9, he, -, -, -, hr9, -⟩ := own_rw (E := Sn.eK) h2 (by omega)
      obtain ⟨rfl, -, rfl⟩ : D3 = A9 ∧ k = ys.length ∧ e3 = c9 := by simpa using he
      have hr3 := Lib.hid (show Sn.Ks wr D3 kn from ⟨ys, h1, hr9, h3⟩)
      have R3 := Lib.hid (R2.out.ob S2.out.bs h4)
      have hr1 := Lib.hid (hs_ob hr1.out S2.out.bs h4)
      have hr2 := Lib.hid (rw_ob mk_W hr2.out S2.out.bs h4)
      have S3 := Lib.hid (S3.out.keep h5 LB.out)
      have Z3 := Lib.hid (Z2.out.ob h4 (by omega))
      have HB3 := Lib.hid (HB2.out.trans h4.bel)
      clear HH h1 h2 h3 h4 h5 he hr9 hyl R2 S2 Z2 HB2
      have kk := S3.out.cx.key 5 _ rfl
      (try dsimp only at kk)
      go_wp2_with fail
      refine (cloneP A4 pb c4 _ R3.out.p (by omega) R3.out.pc).mono ?_
      rintro e v4 ⟨D4, e4, rfl, hd4, hr, hb⟩
      have R4' := Lib.hid (R3.out.below hb)
      have S4' := Lib.hid (S3.out.below hb)
      have Z4' := Lib.hid (Z3.out.below hb)
      have B4' := Lib.hid (bthen HB3.out hb HB3.out.size)
      have hr4 := Lib.hid hr
      have hr1 := Lib.hid (hld_h _ _ _ _ hr1.out hb)
      have hr2 := Lib.hid (hld_s _ _ _ _ hr2.out hb)
      have hr3 := Lib.hid (hld_k _ _ _ _ hr3.out hb)
      clear kk hb hr R3 S3 Z3 HB3
      go_wp2_with (refine at_fieldSt 32 _ _ w.heap.size [.int .i64 n, .int .i64 q, .slice D1 hs.length e1, .slice D2 sw.length e2, .slice D3 k e3] (.slice A4 pb.length c4) (.slice D4 pb.length e4) [.slice A5 cs.length c5] S4'.out sizeRp rfl (ns_sl _ _ _) rfl rfl rfl rfl rfl ?_)
      intro w4 S4 hb4 hk4
      have R4 := Lib.hid (R4'.out.apart S4'.out.bs hk4.out)
      have Z4 := Lib.hid (Z4'.out.other hk4.out (by omega))
      have HB4 := Lib.hid (B4'.out.trans (hb4.out _ (Nat.le_refl _)))
      have hr4 := Lib.hid (rw_apart mk_P hr4.out S4'.out.bs hk4.out)
      have hr1 := Lib.hid (hs_apart hr1.out S4'.out.bs hk4.out)
      have hr2 := Lib.hid (rw_apart mk_W hr2.out S4'.out.bs hk4.out)
      have hr3 := Lib.hid (ks_apart hr3.out S4'.out.bs hk4.out)
      clear hb4 hk4 R4' S4' Z4' B4'
      have kk := S4.out.cx.key 6 _ rfl
      (try dsimp only at kk)
      go_wp2_with fail
      refine (cloneC A5 cs c5 _ R4.out.c (by omega) R4.out.cc).mono ?_
      rintro e v5 ⟨D5, e5, rfl, hd5, hr, hb⟩
      have R5' := Lib.hid (R4.out.below hb)
      have S5' := Lib.hid (S4.out.below hb)
      have Z5' := Lib.hid (Z4.out.below hb)
      have B5' := Lib.hid (bthen HB4.out hb HB4.out.size)
      have hr5 := Lib.hid hr
      have hr1 := Lib.hid (hld_h _ _ _ _ hr1.out hb)
      have hr2 := Lib.hid (hld_s _ _ _ _ hr2.out hb)
      have hr3 := Lib.hid (hld_k _ _ _ _ hr3.out hb)
      have hr4 := Lib.hid (hld_p _ _ _ _ hr4.out hb)
      clear kk hb hr R4 S4 Z4 HB4
      go_wp2_with (refine at_fieldSt 33 _ _ w.heap.size [.int .i64 n, .int .i64 q, .slice D1 hs.length e1, .slice D2 sw.length e2, .slice D3 k e3, .slice D4 pb.length e4] (.slice A5 cs.length c5) (.slice D5 cs.length e5) [] S5'.out sizeRc rfl (ns_sl _ _ _) rfl rfl rfl rfl rfl ?_)
      intro w5 S5 hb5 hk5
      have R5 := Lib.hid (R5'.out.apart S5'.out.bs hk5.out)
      have Z5 := Lib.hid (Z5'.out.other hk5.out (by omega))
      have HB5 := Lib.hid (B5'.out.trans (hb5.out _ (Nat.le_refl _)))
      have hr5 := Lib.hid (rw_apart mk_A hr5.out S5'.out.bs hk5.out)
      have hr1 := Lib.hid (hs_apart hr1.out S5'.out.bs hk5.out)
      have hr2 := Lib.hid (rw_apart mk_W hr2.out S5'.out.bs hk5.out)
      have hr3 := Lib.hid (ks_apart hr3.out S5'.out.bs hk5.out)
      have hr4 := Lib.hid (rw_apart mk_P hr4.out S5'.out.bs hk5.out)
      clear hb5 hk5 R5' S5' Z5' B5'
      have S5 := Lib.hid (show Sb w5 w.heap.size (stl ⟨n, q, hs, sw, kn, pb, cs⟩ ⟨D1, e1, D2, e2, D3, e3, D4, e4, D5, e5⟩) from by have := S5.out; rw [← HL.out] at this; exact this)
      go_wp2_with (first | (refine at_loadSt _ w.heap.size _ S5.out.cx rfl rfl rfl rfl ?_) | (refine at_wholeSt _ _ (w.heap.size + 1) _ (stl ⟨n, q, hs, sw, kn, pb, cs⟩ ⟨D1, e1, D2, e2, D3, e3, D4, e4, D5, e5⟩) Z5.out rfl (stl_ns _ _) (stl_one _ _) rfl rfl rfl rfl ?_))
      intro w6 Z6 hb6 hk6
      go_wp2_with fail
      refine bodyPost_ret (results_cell rfl _ _ _ _ rfl (loadvSt Z6.out.cx rfl)) rfl ?_
      exact ⟨⟨D1, e1, D2, e2, D3, e3, D4, e4, D5, e5⟩, rfl, ⟨hs_apart hr1.out Z5.out.bs hk6.out, hd1, rw_apart mk_W hr2.out Z5.out.bs hk6.out, hd2, ks_apart hr3.out Z5.out.bs hk6.out, by have := HLC.out; rw [← HL.out] at this; exact this, rw_apart mk_P hr4.out Z5.out.bs hk6.out, hd4, rw_apart mk_A hr5.out Z5.out.bs hk6.out, hd5⟩, HB5.out.trans (hb6.out _ (by omega))⟩
end Go.Proofs.YtilneflfeegnfaaGreat
namespace Go.Proofs.YtilneflfeegnfaaGreat
open Go.RowKit
theorem idx_take {p : Pb.Pr → Bool} {xs : List Pb.Pr} {k : Nat} {x : Pb.Pr} (h : (xs.take k).findIdx? p = none) (hx : xs[k]? = some x) : (p x = false → (xs.take (k + 1)).findIdx? p = none) ∧ (p x = true → xs.findIdx? p = some k) := by
  rw [List.findIdx?_eq_none_iff] at h
  refine ⟨fun hp => ?_, fun hp => ?_⟩
  · rw [List.findIdx?_eq_none_iff]
    intro y hy
    rw [List.take_add_one, hx] at hy
    rcases List.mem_append.1 hy with hy | hy
    · exact h y hy
    · obtain rfl : y = x := by simpa using hy
      exact hp
  · obtain ⟨hk, rfl⟩ := List.getElem?_eq_some_iff.1 hx
    rw [List.findIdx?_eq_some_iff_getElem]
    refine ⟨hk, hp, fun j hj => ?_⟩
    have := h xs[j] (by rw [List.mem_take_iff_getElem]; exact ⟨j, by omega, rfl⟩)
    rw [this]; simp
set_option maxRecDepth 100000 in
set_option maxHeartbeats 4000000 in
theorem index_any (p : Pb.Pr → Bool) (g : FuncId) (es : Array Value) (hge : ∀ args W, (callFunc g args).run Tryz.prog W = .ok (.enter g args) W) (A : Option Addr) (xs : List Pb.Pr) (cap : Nat) (w : World) (h : Rw Pb.eP w A xs)
    (hw : ∀ x ∈ xs, ∀ W, Below w.heap.size w W → Calls Tryz.prog g (#[Pb.prv x] ++ es) W fun e w' => e = .returned (.bool (p x)) ∧ Below W.heap.size W w') :
    Calls Tryz.prog 125 #[.slice A xs.length cap, .func (.func g) #[] es] w fun e w' => e = .returned (.int .i64 (Cs.fnI (xs.findIdx? p))) ∧ Below w.heap.size w w' := by
  have hln := h.1
  have R := Lib.hid h
  have HGE := Lib.hid hge
  have HW := Lib.hid hw
  clear h hge hw
  obtain ⟨L, hL⟩ : ∃ L, xs.length = L := ⟨_, rfl⟩
  have HL := Lib.hid hL
  rw [hL] at hln ⊢
  clear hL
  go_enter Tryz.func125, Tryz.ntmps125
  go_wp2_with fail
  go_loopw [8] (fun i wr => ∃ k : Nat, i = .int .i64 k ∧ k ≤ L ∧ Hid (Below w.heap.size w wr ∧ (xs.take k).findIdx? p = none)) (fun i _ => L - (intOf i).toNat)
  case atStart => exact ⟨0, rfl, by omega, Lib.hid ⟨Below.refl _ _, by simp⟩⟩
  case round =>
    obtain ⟨k, rfl, hk, HH⟩ := hrel
    by_cases hkL : k < L
    · obtain ⟨x, hx⟩ : ∃ x, xs[k]? = some x := ⟨_, List.getElem?_eq_getElem (by rw [HL.out]; exact hkL)⟩
      obtain ⟨y, rfl⟩ := rw_some R.out (by rw [HL.out]; omega)
      have hat := (R.out.below HH.out.1).at hx
      have HT := Lib.hid (idx_take HH.out.2 hx)
      have HWX := HW.out x (List.mem_of_getElem? hx) wr HH.out.1
      obtain ⟨bb, hbb⟩ : ∃ bb, p x = bb := ⟨_, rfl⟩
      rw [hbb] at HWX HT
      simp only [Pb.prv] at HWX
      have HWX := Lib.hid HWX
      clear hx hbb
      go_wp2_with (refine Pb.at_load37 (.tmp 14) rfl rfl (y.add (k * 5)) x rfl hat ?_)
      rw [HGE.out, Oper.upon_enter]
      refine HWX.out.mono ?_
      rintro e w2 ⟨rfl, hb⟩
      have B2 := Lib.hid (HH.out.1.trans (hb.mono HH.out.1.size))
      clear hb hat
      cases bb
      · go_wp2_with fail
        go_roundw
        case rel => exact ⟨k + 1, by go_num, by omega, Lib.hid ⟨B2.out, HT.out.1 (by simp)⟩⟩
        case measure => simp [intOf]; omega
      · go_wp2_with fail
        go_ret
        exact ⟨ret_int (by rw [HT.out.2 (by simp)]; rfl), B2.out⟩
    · obtain rfl : k = L := by omega
      have hn := HH.out.2
      rw [List.take_of_length_le (by rw [HL.out]; exact Nat.le_refl _)] at hn
      have HN := Lib.hid hn
      clear hn
      go_wp2_with fail
      go_ret
      exact ⟨ret_int (by rw [HN.out]; rfl), HH.out.1⟩
set_option maxRecDepth 100000 in
set_option maxHeartbeats 4000000 in
theorem ans1_any (x : Pb.Pr) (a : Int) (g : Nat) (w : World) (hg : w.cell? ⟨g, 0, none⟩ = some (.int .u32 a)) :
    Calls Tryz.prog 126 #[Pb.prv x, .pointer (some ⟨g, 0, none⟩)] w fun e w' => e = .returned (.bool (x.a == a)) ∧ Below w.heap.size w w' := by
  have hgl := World.block_lt_of_cell? _ _ hg
  have B0 := Lib.hid (show Below w.heap.size w (w.alloc (Pb.Prx x)) from (Below.refl _ w).alloc (Nat.le_refl _) _)
  have k0 : (w.alloc (Pb.Prx x)).cell? ⟨g, 0, none⟩ = some (.int .u32 a) := by rw [B0.out.cell (p := ⟨g, 0, none⟩) hgl]; exact hg
  obtain ⟨z, zi, zs, zt, zn⟩ := x
  unfold Pb.Prx at *
  simp only [Pb.prv]
  clear hg
  go_enter Tryz.func126, Tryz.ntmps126
  go_wp2_with fail
  go_ret
  exact ⟨rfl, B0.out⟩
def anS (x : Stt) (a : Int) : Stt := { x with pb := x.pb.filter fun p => p.a != a }
theorem an_none {x : Stt} {a : Int} (h : x.pb.findIdx? (fun p => p.a == a) = none) : anS x a = x ∧ Pb.toB x.pb a = false := by
  rw [List.findIdx?_eq_none_iff] at h
  have e : x.pb.filter (fun p => p.a != a) = x.pb := List.filter_eq_self.2 fun p hp => by have := h p hp; simp at this; simpa using this
  refine ⟨by unfold anS; rw [e], Pb.to_false.2 fun p hp => by have := h p hp; simpa using this⟩
theorem an_some {x : Stt} {a : Int} {i : Nat} (hi : In x) (h : x.pb.findIdx? (fun p => p.a == a) = some i) : i < x.pb.length ∧ Pb.del x.pb i = x.pb.filter (fun p => p.a != a) ∧ Pb.toB x.pb a = true := by
  rw [List.findIdx?_eq_some_iff_getElem] at h
  obtain ⟨hl, hp, -⟩ := h
  have hp' : x.pb[i].a = a := by simpa using hp
  refine ⟨hl, ?_, Pb.to_true.2 ⟨x.pb[i], List.getElem_mem hl, hp'⟩⟩
  have hd := List.pairwise_iff_getElem.1 (List.pairwise_map.1 hi.pv.r.dis)
  have e0 : x.pb = x.pb.take i ++ x.pb[i] :: x.pb.drop (i + 1) := by rw [List.getElem_cons_drop, List.take_append_drop]
  unfold Pb.del
  conv => rhs; rw [e0]
  rw [List.filter_append, List.filter_cons, if_neg (by simp [hp'])]
  congr 1
  · symm
    rw [List.filter_eq_self]
    intro p hm
    obtain ⟨j, hj, rfl⟩ := List.mem_iff_getElem.1 hm
    rw [List.length_take] at hj
    rw [List.getElem_take]
    have := hd j i (by omega) hl (by omega)
    rw [hp'] at this
    simpa using this
  · symm
    rw [List.filter_eq_self]
    intro p hm
    obtain ⟨j, hj, rfl⟩ := List.mem_iff_getElem.1 hm
    rw [List.length_drop] at hj
    rw [List.getElem_drop]
    have := hd i (i + 1 + j) hl (by omega) (by omega)
    rw [hp'] at this
    simpa using fun e => this e.symm
theorem In.an {x : Stt} (h : In x) (a : Int) : In (anS x a) := by
  cases hf : x.pb.findIdx? (fun p => p.a == a) with
  | none => rw [(an_none hf).1]; exact h
  | some i =>
    unfold anS
    rw [← (an_some h hf).2.1]
    exact h.pb' (Pb.del_ok h.pv i)
set_option maxRecDepth 100000 in
set_option maxHeartbeats 4000000 in
theorem answeredS_any (x : Stt) (r : Rws) (a : Int) (b : Nat) (w : World) (H : Sb w b (stl x r)) (h : Lie w x r) (hi : In x) :
    Calls Tryz.prog 106 #[.pointer (some ⟨b, 0, none⟩), .int .u32 a] w (PP w b (anS x a) (.returned (.bool (Pb.toB x.pb a)))) := by
  have B0 := Lib.hid (show Below w.heap.size w (w.alloc (.cells #[.int .u32 a] 40)) from (Below.refl _ w).alloc (Nat.le_refl _) _)
  have S0 := Lib.hid (H.below B0.out)
  have R0 := Lib.hid (h.below B0.out)
  have O0 := Lib.hid (Ob.of B0.out H.lt)
  have hga : (w.alloc (.cells #[.int .u32 a] 40)).cell? ⟨w.heap.size, 0, none⟩ = some (.int .u32 a) := by simp
  have hgl : w.heap.size < (w.alloc (.cells #[.int .u32 a] 40)).heap.size := by simp
  have HIX := Lib.hid (index_any (fun p => p.a == a) 126 #[.pointer (some ⟨w.heap.size, 0, none⟩)] (fun args W => callFunc_enter Tryz.func126 (by kernel_rfl) rfl args W) r.p x.pb r.pc (w.alloc (.cells #[.int .u32 a] 40)) R0.out.p
    (fun z hz W hW => ans1_any z a w.heap.size W (by rw [hW.cell (p := ⟨w.heap.size, 0, none⟩) hgl]; exact hga)))
  have hp16 := hi.p16
  have k5 := S0.out.cx.key 5 _ rfl
  (try dsimp only at k5)
  cases hf : x.pb.findIdx? (fun p => p.a == a) with
  | none =>
    have HAN := Lib.hid (an_none hf)
    rw [hf] at HIX
    simp only [Cs.fnI] at HIX
    have HX := Lib.hid (show ∃ r, Sb (w.alloc (.cells #[.int .u32 a] 40)) b (stl x r) ∧ Lie (w.alloc (.cells #[.int .u32 a] 40)) x r from ⟨r, S0.out, R0.out⟩)
    obtain ⟨L, hL⟩ : ∃ L, x.pb.length = L := ⟨_, rfl⟩
    rw [hL] at HIX k5
    clear h H hi hf hga hgl S0 R0 hp16 hL
    go_enter Tryz.func106, Tryz.ntmps106
    go_wp2_with fail
    refine HIX.out.mono ?_
    rintro e w1 ⟨rfl, hb⟩
    have HB := Lib.hid hb
    clear hb
    go_wp2_with fail
    go_ret
    obtain ⟨r, hS, hR⟩ := HX.out
    refine ⟨ret_bool HAN.out.2.symm, ?_, O0.out.trans (Ob.of HB.out hS.lt)⟩
    rw [HAN.out.1]
    exact ⟨r, hS.below HB.out, hR.below HB.out⟩
  | some i =>
    have HF := Lib.hid (an_some hi hf)
    have HAN0 := show anS x a = { x with pb := Pb.del x.pb i } from by unfold anS; rw [HF.out.2.1]
    have hil := HF.out.1
    rw [hf] at HIX
    simp only [Cs.fnI] at HIX
    clear h H hi hf hga hgl
    obtain ⟨n, q, hs, sw, kn, pb, cs⟩ := x
    obtain ⟨A1, c1, A2, c2, A3, c3, A4, c4, A5, c5⟩ := r
    dsimp only at HIX hp16 hil HAN0 HF k5
    obtain ⟨ys, hys⟩ : ∃ ys, Pb.del pb i = ys := ⟨_, rfl⟩
    rw [hys] at HAN0
    have HAN := Lib.hid HAN0
    obtain ⟨y, rfl⟩ := rw_some R0.out.p (by dsimp only; omega)
    have hcap := R0.out.pc
    dsimp only at hcap
    obtain ⟨ps, hps⟩ : ∃ ps : List (Pt Pb.Pr), ps = [⟨some y, pb.take i, c4⟩, ⟨dA 5 (some y) c4 (i + 1), pb.drop (i + 1), c4 - (i + 1)⟩] := ⟨_, rfl⟩
    have e1 : (pb.take i).length = i := by rw [List.length_take]; omega
    have e2 : (pb.drop (i + 1)).length = pb.length - (i + 1) := by rw [List.length_drop]
    have hcat : cat ps ps.length = ys := by rw [← hys, hps]; simp [cat, Pb.del]
    have hyl : ys.length ≤ 1000 := by rw [← hys]; unfold Pb.del; rw [List.length_append, e1, e2]; omega
    have HPM := Lib.hid (show ∀ W, Rw Pb.eP W (some y) pb → Pb.pF ps (.slice (some ⟨W.heap.size, 0, none⟩) 2 2) (W.alloc (.cells #[.slice (some y) i c4, .slice (dA 5 (some y) c4 (i + 1)) (pb.length - (i + 1)) (c4 - (i + 1))] 32)) from fun W hW => by
      subst hps
      have := Pb.pm_two W ⟨some y, pb.take i, c4⟩ ⟨dA 5 (some y) c4 (i + 1), pb.drop (i + 1), c4 - (i + 1)⟩ 32 (hW.take _) (hW.rest hcap _)
      dsimp only at this
      rw [e1, e2] at this
      exact ⟨_, rfl, this⟩)
    have HCC := Lib.hid (show ∀ W b, Pm Pb.eP W b ps → Calls Tryz.prog 113 #[.slice (some ⟨b, 0, none⟩) 2 2] W (RP Rp W ys) from fun W b hb => by
      have := Pb.concat_any ps b 2 W hb (by rw [hcat]; omega) (by rw [hps]; simp)
      rw [hcat, show ps.length = 2 by rw [hps]; rfl] at this
      exact this.mono fun _ _ k => own_rp k (by omega))
    have HSH := Lib.hid (fun W => Pb.run_sl29 (some y) pb.length c4 i (by omega) W)
    have HSL := Lib.hid (fun W => Pb.run_sl29l (some y) pb.length c4 (i + 1) (by omega) hcap W)
    have HPL := Lib.hid (show ps.length = 2 by rw [hps]; rfl)
    have HWR := Lib.hid (show IntKind.i64.wrap ((i : Int) + 1) = (i : Int) + 1 by rw [IntKind.wrap_i64]; omega)
    simp only [stl] at S0
    obtain ⟨L, hL⟩ : ∃ L, pb.length = L := ⟨_, rfl⟩
    have HL := Lib.hid hL
    rw [hL] at HIX S0 HPM HSH HSL hcap hp16 hil k5
    clear hps hcat hys hyl e1 e2 HAN0 hL
    go_enter Tryz.func106, Tryz.ntmps106
    go_wp2_with fail
    refine HIX.out.mono ?_
    rintro e w1 ⟨rfl, hb⟩
    have R1 := Lib.hid (R0.out.below hb)
    have S1 := Lib.hid (S0.out.below hb)
    have O1 := Lib.hid (O0.out.trans (Ob.of hb S0.out.lt))
    clear hb S0 R0 O0 k5
    go_wp2_with fail
    refine wp_region_below_tail 16 [fx (.pointer (some ⟨b, 0, none⟩)), fx (.pointer (some ⟨b, 0, none⟩)), fx (.pointer (some ⟨b, 0, none⟩)), fx (.pointer (some ⟨b, 5, none⟩)), fx (.slice (some y) L c4), fx (.int .i64 (i : Int)), fx (.slice (some y) i c4), fx (.pointer (some ⟨b, 0, none⟩)), fx (.pointer (some ⟨b, 0, none⟩)), fx (.pointer (some ⟨b, 5, none⟩)), fx (.slice (some y) L c4), fx (.int .i64 (i : Int)), fx (.int .i64 ((i + 1 : Nat) : Int)), fx (.slice (dA 5 (some y) c4 (i + 1)) (L - (i + 1)) (c4 - (i + 1))), Pb.pF ps, rF Rp ys]
      (by kernel_rfl) (by simp) (by kernel_rfl) (by kernel_rfl) (by kernel_rfl) ?_ ?_ ?_
    · simp only [List.mem_cons, List.not_mem_nil, or_false]
      rintro φ (rfl | rfl | rfl | rfl | rfl | rfl | rfl | rfl | rfl | rfl | rfl | rfl | rfl | rfl | rfl | rfl)
      all_goals first | exact stable_fx _ | exact stable_rF hld_h _ | exact stable_rF hld_s _ | exact stable_rF hld_k _ | exact stable_rF hld_p _ | exact stable_rF hld_c _ | exact stable_tF hld_h _ _ | exact stable_tF hld_s _ _ | exact stable_tF hld_k _ _ | exact stable_tF hld_p _ _ | exact stable_tF hld_c _ _ | exact Pb.stable_pF _
    · refine OgSteps.cons ?_ (OgSteps.cons ?_ (OgSteps.cons ?_ (OgSteps.cons ?_ (OgSteps.cons ?_ (OgSteps.cons ?_ (OgSteps.cons ?_ (OgSteps.cons ?_ (OgSteps.cons ?_ (OgSteps.cons ?_ (OgSteps.cons ?_ (OgSteps.cons ?_ (OgSteps.cons ?_ (OgSteps.cons ?_ (OgSteps.cons ?_ (OgSteps.cons ?_ (OgSteps.nil))))))))))))))))
      · refine OgStep.pure ?_ ?_
        · rfl
        intro u W hS hp
        refine ⟨.pointer (some ⟨b, 0, none⟩), ?_, rfl⟩
        simp only [ogMk, Act.put, List.setIfInBounds_toArray, List.set_cons_zero, List.set_cons_succ, Nat.zero_add, Nat.reduceAdd, List.take_succ_cons, List.take_zero, List.drop_succ_cons, List.drop_zero]
        simp [execOp, Act.eval, go_sem]
      · refine OgStep.pure ?_ ?_
        · rfl
        intro u W hS hp
        refine ⟨.pointer (some ⟨b, 0, none⟩), ?_, rfl⟩
        simp only [ogMk, Act.put, List.setIfInBounds_toArray, List.set_cons_zero, List.set_cons_succ, Nat.zero_add, Nat.reduceAdd, List.take_succ_cons, List.take_zero, List.drop_succ_cons, List.drop_zero]
        simp [execOp, Act.eval, go_sem]
      · refine OgStep.pure ?_ ?_
        · rfl
        intro u W hS hp
        have h1 : u 1 = .pointer (some ⟨b, 0, none⟩) := hp ⟨1, .data⟩ (by simp) rfl
        refine ⟨.pointer (some ⟨b, 0, none⟩), ?_, rfl⟩
        simp only [ogMk, Act.put, List.setIfInBounds_toArray, List.set_cons_zero, List.set_cons_succ, Nat.zero_add, Nat.reduceAdd, List.take_succ_cons, List.take_zero, List.drop_succ_cons, List.drop_zero]
        simp [execOp, Act.eval, go_sem, h1]
      · refine OgStep.pure ?_ ?_
        · rfl
        intro u W hS hp
        have h2 : u 2 = .pointer (some ⟨b, 0, none⟩) := hp ⟨2, .data⟩ (by simp) rfl
        refine ⟨.pointer (some ⟨b, 5, none⟩), ?_, rfl⟩
        simp only [ogMk, Act.put, List.setIfInBounds_toArray, List.set_cons_zero, List.set_cons_succ, Nat.zero_add, Nat.reduceAdd, List.take_succ_cons, List.take_zero, List.drop_succ_cons, List.drop_zero]
        simp [execOp, Act.eval, go_sem, h2]
      · refine OgStep.pure ?_ ?_
        · rfl
        intro u W hS hp
        have h3 : u 3 = .pointer (some ⟨b, 5, none⟩) := hp ⟨3, .data⟩ (by simp) rfl
        have k5 := (S1.out.below hS).cx.key 5 _ rfl
        (try dsimp only at k5)
        refine ⟨.slice (some y) L c4, ?_, rfl⟩
        simp only [ogMk, Act.put, List.setIfInBounds_toArray, List.set_cons_zero, List.set_cons_succ, Nat.zero_add, Nat.reduceAdd, List.take_succ_cons, List.take_zero, List.drop_succ_cons, List.drop_zero]
        simp [execOp, Act.eval, go_sem, h3, k5]
      · refine OgStep.pure ?_ ?_
        · rfl
        intro u W hS hp
        refine ⟨.int .i64 (i : Int), ?_, rfl⟩
        simp only [ogMk, Act.put, List.setIfInBounds_toArray, List.set_cons_zero, List.set_cons_succ, Nat.zero_add, Nat.reduceAdd, List.take_succ_cons, List.take_zero, List.drop_succ_cons, List.drop_zero]
        simp [execOp, Act.eval, go_sem]
      · refine OgStep.pure ?_ ?_
        · rfl
        intro u W hS hp
        have h4 : u 4 = .slice (some y) L c4 := hp ⟨4, .data⟩ (by simp) rfl
        have h5 : u 5 = .int .i64 (i : Int) := hp ⟨5, .data⟩ (by simp) rfl
        have R := HSH.out W
        refine ⟨.slice (some y) i c4, ?_, rfl⟩
        simp only [ogMk, Act.put, List.setIfInBounds_toArray, List.set_cons_zero, List.set_cons_succ, Nat.zero_add, Nat.reduceAdd, List.take_succ_cons, List.take_zero, List.drop_succ_cons, List.drop_zero]
        simp [execOp, Act.eval, go_sem, h4, h5, R]
      · refine OgStep.pure ?_ ?_
        · rfl
        intro u W hS hp
        refine ⟨.pointer (some ⟨b, 0, none⟩), ?_, rfl⟩
        simp only [ogMk, Act.put, List.setIfInBounds_toArray, List.set_cons_zero, List.set_cons_succ, Nat.zero_add, Nat.reduceAdd, List.take_succ_cons, List.take_zero, List.drop_succ_cons, List.drop_zero]
        simp [execOp, Act.eval, go_sem]
      · refine OgStep.pure ?_ ?_
        · rfl
        intro u W hS hp
        have h7 : u 7 = .pointer (some ⟨b, 0, none⟩) := hp ⟨7, .data⟩ (by simp) rfl
        refine ⟨.pointer (some ⟨b, 0, none⟩), ?_, rfl⟩
        simp only [ogMk, Act.put, List.setIfInBounds_toArray, List.set_cons_zero, List.set_cons_succ, Nat.zero_add, Nat.reduceAdd, List.take_succ_cons, List.take_zero, List.drop_succ_cons, List.drop_zero]
        simp [execOp, Act.eval, go_sem, h7]
      · refine OgStep.pure ?_ ?_
        · rfl
        intro u W hS hp
        have h8 : u 8 = .pointer (some ⟨b, 0, none⟩) := hp ⟨8, .data⟩ (by simp) rfl
        refine ⟨.pointer (some ⟨b, 5, none⟩), ?_, rfl⟩
        simp only [ogMk, Act.put, List.setIfInBounds_toArray, List.set_cons_zero, List.set_cons_succ, Nat.zero_add, Nat.reduceAdd, List.take_succ_cons, List.take_zero, List.drop_succ_cons, List.drop_zero]
        simp [execOp, Act.eval, go_sem, h8]
      · refine OgStep.pure ?_ ?_
        · rfl
        intro u W hS hp
        have h9 : u 9 = .pointer (some ⟨b, 5, none⟩) := hp ⟨9, .data⟩ (by simp) rfl
        have k5 := (S1.out.below hS).cx.key 5 _ rfl
        (try dsimp only at k5)
        refine ⟨.slice (some y) L c4, ?_, rfl⟩
        simp only [ogMk, Act.put, List.setIfInBounds_toArray, List.set_cons_zero, List.set_cons_succ, Nat.zero_add, Nat.reduceAdd, List.take_succ_cons, List.take_zero, List.drop_succ_cons, List.drop_zero]
        simp [execOp, Act.eval, go_sem, h9, k5]
      · refine OgStep.pure ?_ ?_
        · rfl
        intro u W hS hp
        refine ⟨.int .i64 (i : Int), ?_, rfl⟩
        simp only [ogMk, Act.put, List.setIfInBounds_toArray, List.set_cons_zero, List.set_cons_succ, Nat.zero_add, Nat.reduceAdd, List.take_succ_cons, List.take_zero, List.drop_succ_cons, List.drop_zero]
        simp [execOp, Act.eval, go_sem]
      · refine OgStep.pure ?_ ?_
        · rfl
        intro u W hS hp
        have h11 : u 11 = .int .i64 (i : Int) := hp ⟨11, .data⟩ (by simp) rfl
        have R := HWR.out
        refine ⟨.int .i64 ((i + 1 : Nat) : Int), ?_, rfl⟩
        simp only [ogMk, Act.put, List.setIfInBounds_toArray, List.set_cons_zero, List.set_cons_succ, Nat.zero_add, Nat.reduceAdd, List.take_succ_cons, List.take_zero, List.drop_succ_cons, List.drop_zero]
        simp [execOp, Act.eval, go_sem, h11, R]
      · refine OgStep.pure ?_ ?_
        · rfl
        intro u W hS hp
        have h10 : u 10 = .slice (some y) L c4 := hp ⟨10, .data⟩ (by simp) rfl
        have h12 : u 12 = .int .i64 ((i + 1 : Nat) : Int) := hp ⟨12, .data⟩ (by simp) rfl
        have R := HSL.out W
        rw [show ((i + 1 : Nat) : Int) = (i : Int) + 1 by omega] at R
        refine ⟨.slice (dA 5 (some y) c4 (i + 1)) (L - (i + 1)) (c4 - (i + 1)), ?_, rfl⟩
        simp only [ogMk, Act.put, List.setIfInBounds_toArray, List.set_cons_zero, List.set_cons_succ, Nat.zero_add, Nat.reduceAdd, List.take_succ_cons, List.take_zero, List.drop_succ_cons, List.drop_zero]
        simp [execOp, Act.eval, go_sem, h10, h12, R]
      · refine OgStep.made ?_ ?_
        · rfl
        intro u W hS hp
        have h6 : u 6 = .slice (some y) i c4 := hp ⟨6, .data⟩ (by simp) rfl
        have h13 : u 13 = .slice (dA 5 (some y) c4 (i + 1)) (L - (i + 1)) (c4 - (i + 1)) := hp ⟨13, .data⟩ (by simp) rfl
        refine ⟨.slice (some ⟨W.heap.size, 0, none⟩) 2 2, _, ?_, (Below.refl _ W).alloc (Nat.le_refl _) _, HPM.out W (R1.out.below hS).p⟩
        simp only [ogMk, Act.put, List.setIfInBounds_toArray, List.set_cons_zero, List.set_cons_succ, Nat.zero_add, Nat.reduceAdd, List.take_succ_cons, List.take_zero, List.drop_succ_cons, List.drop_zero]
        simp [execOp, Act.eval, go_sem, h6, h13]
      · refine OgStep.calls ?_ ?_
        · rfl
        intro u W hS hp
        obtain ⟨bb, e14, hPm⟩ : Pb.pF ps (u 14) W := hp ⟨14, .data⟩ (by simp) rfl
        refine ⟨113, #[.slice (some ⟨bb, 0, none⟩) 2 2], ?_, calls_RP (HCC.out W bb hPm) rfl⟩
        simp only [ogMk, Act.put, List.setIfInBounds_toArray, List.set_cons_zero, List.set_cons_succ, Nat.zero_add, Nat.reduceAdd, List.take_succ_cons, List.take_zero, List.drop_succ_cons, List.drop_zero]
        rw [e14, HPL.out]
        simp [execOp, Act.eval, go_sem]
    · intro u W hS hF
      have e0 : u 0 = .pointer (some ⟨b, 0, none⟩) := hF 0 (by decide)
      have e1 : u 1 = .pointer (some ⟨b, 0, none⟩) := hF 1 (by decide)
      have e2 : u 2 = .pointer (some ⟨b, 0, none⟩) := hF 2 (by decide)
      have e3 : u 3 = .pointer (some ⟨b, 5, none⟩) := hF 3 (by decide)
      have e4 : u 4 = .slice (some y) L c4 := hF 4 (by decide)
      have e5 : u 5 = .int .i64 (i : Int) := hF 5 (by decide)
      have e6 : u 6 = .slice (some y) i c4 := hF 6 (by decide)
      have e7 : u 7 = .pointer (some ⟨b, 0, none⟩) := hF 7 (by decide)
      have e8 : u 8 = .pointer (some ⟨b, 0, none⟩) := hF 8 (by decide)
      have e9 : u 9 = .pointer (some ⟨b, 5, none⟩) := hF 9 (by decide)
      have e10 : u 10 = .slice (some y) L c4 := hF 10 (by decide)
      have e11 : u 11 = .int .i64 (i : Int) := hF 11 (by decide)
      have e12 : u 12 = .int .i64 ((i + 1 : Nat) : Int) := hF 12 (by decide)
      have e13 : u 13 = .slice (dA 5 (some y) c4 (i + 1)) (L - (i + 1)) (c4 - (i + 1)) := hF 13 (by decide)
      obtain ⟨A6, c6, e15, hc6, hR6⟩ : rF Rp ys (u 15) W := hF 15 (by decide)
      simp only [ogMk, Act.put, List.setIfInBounds_toArray, List.set_cons_zero, List.set_cons_succ, Nat.zero_add, Nat.reduceAdd, List.take_succ_cons, List.take_zero, List.drop_succ_cons, List.drop_zero]
      rw [e0, e1, e2, e3, e4, e5, e6, e7, e8, e9, e10, e11, e12, e13, e15]
      clear e0 e1 e2 e3 e4 e5 e6 e7 e8 e9 e10 e11 e12 e13 e15 hF
      have R2 := Lib.hid (R1.out.below hS)
      have S2 := Lib.hid (S1.out.below hS)
      have O2 := Lib.hid (O1.out.trans (Ob.of hS S1.out.lt))
      clear hS R1 S1 O1
      go_wp2_with (refine at_fieldSt 32 _ _ b [.int .i64 n, .int .i64 q, .slice A1 hs.length c1, .slice A2 sw.length c2, .slice A3 kn.length c3] (.slice (some y) L c4) (.slice A6 ys.length c6) [.slice A5 cs.length c5] S2.out sizeRp rfl (ns_sl _ _ _) rfl rfl rfl rfl rfl ?_)
      intro w3 S3 hb3 hk3
      have O3 := Lib.hid (O2.out.trans (Ob.put hb3.out hk3.out))
      have R3 := Lib.hid (show Lie w3 ⟨n, q, hs, sw, kn, ys, cs⟩ ⟨A1, c1, A2, c2, A3, c3, A6, c6, A5, c5⟩ from { R2.out.apart S2.out.bs hk3.out with p := rw_apart mk_P hR6 S2.out.bs hk3.out, pc := hc6 })
      clear hb3 hk3 R2 S2 hR6
      go_wp2_with fail
      go_ret
      refine ⟨ret_bool HF.out.2.2.symm, ?_, O3.out⟩
      rw [HAN.out]
      exact ⟨⟨A1, c1, A2, c2, A3, c3, A6, c6, A5, c5⟩, S3.out, R3.out⟩
end Go.Proofs.YtilneflfeegnfaaGreat
namespace Go.Proofs.YtilneflfeegnfaaGreat
open Go.RowKit
def CP (w : World) (b : Nat) (D : Stt × List Pb.Pk × Int) (e : Ending) (w' : World) : Prop := e = .returned (.int .i64 D.2.2) ∧ (D.2.2 = 0 → ∃ r, Sb w' b (stl D.1 r) ∧ Lie w' D.1 r) ∧ Ob b w w'
theorem an_len {x : Stt} {a : Int} : Pb.toB x.pb a = false ↔ (x.pb.filter fun p => p.a != a).length = x.pb.length := by
  rw [Pb.to_false, List.length_filter_eq_length_iff]
  exact ⟨fun h p hp => by simpa using h p hp, fun h p hp => by simpa using h p hp⟩
theorem sizeMac : (Tryz.prog.info? 42).map (·.size) = some 6 := by kernel_rfl
theorem upd_ok {x y : Stt} : upd x y 0 = (y, [], 0) := rfl
theorem upd_no {x y : Stt} {q : Int} (h : q ≠ 0) : upd x y q = (x, [], q) := if_neg h
set_option maxRecDepth 100000 in
set_option maxHeartbeats 4000000 in
theorem sawS_any (x : Stt) (r : Rws) (a : Int) (s : Sn.Sg) (b : Nat) (w : World) (H : Sb w b (stl x r)) (h : Lie w x r) (hi : In x) (ha0 : 0 ≤ a) (ha1 : a < 4294967296) :
    Calls Tryz.prog 65 #[.pointer (some ⟨b, 0, none⟩), .int .u32 a, Sn.sv s] w (CP w b (sawL x a s)) := by
  have HAN := Lib.hid fun r W H h => answeredS_any x r a b W H h hi
  have HQ0 := show sawL x a s = _ from by unfold sawL; rfl
  have HLN := an_len (x := x) (a := a)
  have hc9 : x.cs.length ≤ 900 := by have := hi.c16; omega
  have hbd := hi.kv.bd
  obtain ⟨f, m0, m1, m2, m3, m4, m5, t⟩ := s
  have B0 := Lib.hid (show Below w.heap.size w (w.alloc (.cells #[.int .i64 f, .int .u8 m0, .int .u8 m1, .int .u8 m2, .int .u8 m3, .int .u8 m4, .int .u8 m5, .int .i64 t] 49)) from (Below.refl _ w).alloc (Nat.le_refl _) _)
  have X0 := Lib.hid (cx_box w [.int .i64 f, .int .u8 m0, .int .u8 m1, .int .u8 m2, .int .u8 m3, .int .u8 m4, .int .u8 m5, .int .i64 t] _ 49 rfl : Cx (w.alloc (.cells #[.int .i64 f, .int .u8 m0, .int .u8 m1, .int .u8 m2, .int .u8 m3, .int .u8 m4, .int .u8 m5, .int .i64 t] 49)) w.heap.size [.int .i64 f, .int .u8 m0, .int .u8 m1, .int .u8 m2, .int .u8 m3, .int .u8 m4, .int .u8 m5, .int .i64 t])
  have S0 := Lib.hid (H.below B0.out)
  have LT := Lib.hid H.lt
  have Hw := Lib.hid H
  have hw := Lib.hid h
  have HPU := Lib.hid fun (s : Sn.Sg) (A : Option Addr) (cap : Nat) W (hW : Sn.Ks W A x.kn) (hc : x.kn.length ≤ cap) => Sn.put_any a s A x.kn cap W hW hc hbd ha0 ha1
  obtain ⟨pbf, hpf⟩ : ∃ pbf, (x.pb.filter fun p => p.a != a) = pbf := ⟨_, rfl⟩
  have hAN : anS x a = { x with pb := pbf } := by unfold anS; rw [hpf]
  obtain ⟨fb, hfb⟩ : ∃ fb, Pb.toB x.pb a = fb := ⟨_, rfl⟩
  rw [hAN, hfb] at HAN
  rw [hpf] at HQ0 HLN
  rw [hfb] at HLN
  simp only [sgL] at HQ0
  clear hbd hpf hAN hfb hi H h
  obtain ⟨n, q, hs, sw, kn, pb, cs⟩ := x
  obtain ⟨A1, c1, A2, c2, A3, c3, A4, c4, A5, c5⟩ := r
  dsimp only at HQ0 HLN hc9 HPU
  have HQH := Lib.hid HQ0
  have HLH := Lib.hid HLN
  clear HQ0 HLN
  have k0 := S0.out.cx.key 0 _ rfl
  (try dsimp only at k0)
  simp only [Sn.sv]
  go_enter Tryz.func65, Tryz.ntmps65
  go_wp2_with (refine at_put1 3 _ _ w.heap.size [.int .i64 f, .int .u8 m0, .int .u8 m1, .int .u8 m2, .int .u8 m3, .int .u8 m4, .int .u8 m5] (.int .i64 t) (.int .i64 n) [] X0.out sizeInt rfl rfl rfl rfl rfl rfl ?_)
  intro w1 X1 hb1 hk1
  have BW1 := Lib.hid (B0.out.trans (hb1.out _ (Nat.le_refl _)))
  have X1 := Lib.hid (show Cx w1 w.heap.size [.int .i64 f, .int .u8 m0, .int .u8 m1, .int .u8 m2, .int .u8 m3, .int .u8 m4, .int .u8 m5, .int .i64 n] from X1.out)
  have S1 := Lib.hid (Hw.out.below BW1.out)
  have R1 := Lib.hid (hw.out.below BW1.out)
  have O1 := Lib.hid (Ob.of BW1.out LT.out)
  clear hb1 hk1 S0 X0 B0 k0
  have k0 := X1.out.key 0 _ rfl
  (try dsimp only at k0)
  by_cases hf : f = 0
  · subst hf
    go_wp2_with (refine at_put 42 _ _ w.heap.size [.int .i64 0] [.int .u8 m0, .int .u8 m1, .int .u8 m2, .int .u8 m3, .int .u8 m4, .int .u8 m5] [.int .u8 0, .int .u8 0, .int .u8 0, .int .u8 0, .int .u8 0, .int .u8 0] [.int .i64 n] X1.out rfl sizeMac (by simp [Value.oneCell']) rfl rfl rfl rfl ?_)
    intro w2 X2 hb2 hk2
    have BW2 := Lib.hid (BW1.out.trans (hb2.out _ (Nat.le_refl _)))
    have X2 := Lib.hid (show Cx w2 w.heap.size [.int .i64 0, .int .u8 0, .int .u8 0, .int .u8 0, .int .u8 0, .int .u8 0, .int .u8 0, .int .i64 n] from X2.out)
    have S2 := Lib.hid (Hw.out.below BW2.out)
    have R2 := Lib.hid (hw.out.below BW2.out)
    have O2 := Lib.hid (Ob.of BW2.out LT.out)
    clear hb2 hk2 S1 X1 BW1 R1 O1 k0
    go_wp2_with fail
    refine (HAN.out _ w2 S2.out R2.out).mono ?_
    rintro e w3 ⟨rfl, ⟨r3, hS, hR⟩, hO⟩
    have O5 := Lib.hid (O2.out.trans hO)
    have X5 := Lib.hid (cx_ob X2.out hO (by have := LT.out; omega))
    obtain ⟨A1', c1', A2', c2', A3, c3, A4', c4', A5', c5'⟩ := r3
    have S5 := Lib.hid hS
    have R5 := Lib.hid hR
    simp only [stl] at S5
    have HPU := Lib.hid fun W (hW : Lie W ⟨n, q, hs, sw, kn, pbf, cs⟩ ⟨A1', c1', A2', c2', A3, c3, A4', c4', A5', c5'⟩) => HPU.out ⟨0, 0, 0, 0, 0, 0, 0, n⟩ A3 c3 W hW.k hW.kc
    clear hS hR hO S2 X2 R2 O2 BW2 HAN
    have HQ0 := HQH.out
    have HLN := HLH.out
    simp only [if_true] at HQ0
    clear HQH HLH
    cases fb
    · rw [if_pos (HLN.1 rfl)] at HQ0
      have HQ := Lib.hid HQ0
      clear HQ0 HLN
      go_wp2_with fail
      go_ret
      rw [HQ.out]
      exact ⟨rfl, (fun h => by cases h), O5.out⟩
    · rw [if_neg (fun hh => by have := HLN.2 hh; cases this)] at HQ0
      obtain ⟨ys, hys⟩ : ∃ ys, Sn.putR kn a ⟨0, 0, 0, 0, 0, 0, 0, n⟩ = ys := ⟨_, rfl⟩
      obtain ⟨er, her⟩ : ∃ er, Sn.putC kn a ⟨0, 0, 0, 0, 0, 0, 0, n⟩ = er := ⟨_, rfl⟩
      rw [hys, her] at HPU HQ0
      simp only [Sn.sv] at HPU
      have HQ := Lib.hid HQ0
      clear HQ0 HLN hys her
      go_wp2_with fail
      refine wp_region_below [fx (.pointer (some ⟨b, 0, none⟩)), fx (.pointer (some ⟨b, 0, none⟩)), fx (.pointer (some ⟨b, 4, none⟩)), fx (.slice A3 kn.length c3), fx (.int .u32 a), fx (.agg #[.int .i64 0, .int .u8 0, .int .u8 0, .int .u8 0, .int .u8 0, .int .u8 0, .int .u8 0, .int .i64 n]), tF Rk ys er, tF Rk ys er, rF Rk ys, fx (.int .i64 er), rF Rk ys, fx (.int .i64 er)]
        (by kernel_rfl) (by kernel_rfl) (by kernel_rfl) ?_ ?_ ?_
      · simp only [List.mem_cons, List.not_mem_nil, or_false]
        rintro φ (rfl | rfl | rfl | rfl | rfl | rfl | rfl | rfl | rfl | rfl | rfl | rfl)
        all_goals first | exact stable_fx _ | exact stable_rF hld_h _ | exact stable_rF hld_s _ | exact stable_rF hld_k _ | exact stable_rF hld_p _ | exact stable_rF hld_c _ | exact stable_tF hld_h _ _ | exact stable_tF hld_s _ _ | exact stable_tF hld_k _ _ | exact stable_tF hld_p _ _ | exact stable_tF hld_c _ _
      · refine OgSteps.cons ?_ (OgSteps.cons ?_ (OgSteps.cons ?_ (OgSteps.cons ?_ (OgSteps.cons ?_ (OgSteps.cons ?_ (OgSteps.cons ?_ (OgSteps.cons ?_ (OgSteps.cons ?_ (OgSteps.cons ?_ (OgSteps.cons ?_ (OgSteps.cons ?_ (OgSteps.nil))))))))))))
        · refine OgStep.pure ?_ ?_
          · rfl
          intro u W hS hp
          refine ⟨.pointer (some ⟨b, 0, none⟩), ?_, rfl⟩
          simp only [ogMk, Act.put, List.setIfInBounds_toArray, List.set_cons_zero, List.set_cons_succ, Nat.zero_add, Nat.reduceAdd, List.take_succ_cons, List.take_zero, List.drop_succ_cons, List.drop_zero]
          simp [execOp, Act.eval, go_sem]
        · refine OgStep.pure ?_ ?_
          · rfl
          intro u W hS hp
          have h0 : u 0 = .pointer (some ⟨b, 0, none⟩) := hp ⟨0, .data⟩ (by simp) rfl
          refine ⟨.pointer (some ⟨b, 0, none⟩), ?_, rfl⟩
          simp only [ogMk, Act.put, List.setIfInBounds_toArray, List.set_cons_zero, List.set_cons_succ, Nat.zero_add, Nat.reduceAdd, List.take_succ_cons, List.take_zero, List.drop_succ_cons, List.drop_zero]
          simp [execOp, Act.eval, go_sem, h0]
        · refine OgStep.pure ?_ ?_
          · rfl
          intro u W hS hp
          have h1 : u 1 = .pointer (some ⟨b, 0, none⟩) := hp ⟨1, .data⟩ (by simp) rfl
          refine ⟨.pointer (some ⟨b, 4, none⟩), ?_, rfl⟩
          simp only [ogMk, Act.put, List.setIfInBounds_toArray, List.set_cons_zero, List.set_cons_succ, Nat.zero_add, Nat.reduceAdd, List.take_succ_cons, List.take_zero, List.drop_succ_cons, List.drop_zero]
          simp [execOp, Act.eval, go_sem, h1]
        · refine OgStep.pure ?_ ?_
          · rfl
          intro u W hS hp
          have h2 : u 2 = .pointer (some ⟨b, 4, none⟩) := hp ⟨2, .data⟩ (by simp) rfl
          have k4 := (S5.out.below hS).cx.key 4 _ rfl
          (try dsimp only at k4)
          refine ⟨.slice A3 kn.length c3, ?_, rfl⟩
          simp only [ogMk, Act.put, List.setIfInBounds_toArray, List.set_cons_zero, List.set_cons_succ, Nat.zero_add, Nat.reduceAdd, List.take_succ_cons, List.take_zero, List.drop_succ_cons, List.drop_zero]
          simp [execOp, Act.eval, go_sem, h2, k4]
        · refine OgStep.pure ?_ ?_
          · rfl
          intro u W hS hp
          refine ⟨.int .u32 a, ?_, rfl⟩
          simp only [ogMk, Act.put, List.setIfInBounds_toArray, List.set_cons_zero, List.set_cons_succ, Nat.zero_add, Nat.reduceAdd, List.take_succ_cons, List.take_zero, List.drop_succ_cons, List.drop_zero]
          simp [execOp, Act.eval, go_sem]
        · refine OgStep.pure ?_ ?_
          · rfl
          intro u W hS hp
          have G := Cx.below X5.out hS
          have g0 := G.key 0 _ rfl
          have g1 := G.key 1 _ rfl
          have g2 := G.key 2 _ rfl
          have g3 := G.key 3 _ rfl
          have g4 := G.key 4 _ rfl
          have g5 := G.key 5 _ rfl
          have g6 := G.key 6 _ rfl
          have g7 := G.key 7 _ rfl
          (try dsimp only at g0 g1 g2 g3 g4 g5 g6 g7)
          refine ⟨.agg #[.int .i64 0, .int .u8 0, .int .u8 0, .int .u8 0, .int .u8 0, .int .u8 0, .int .u8 0, .int .i64 n], ?_, rfl⟩
          simp only [ogMk, Act.put, List.setIfInBounds_toArray, List.set_cons_zero, List.set_cons_succ, Nat.zero_add, Nat.reduceAdd, List.take_succ_cons, List.take_zero, List.drop_succ_cons, List.drop_zero]
          simp [execOp, Act.eval, go_sem, g0, g1, g2, g3, g4, g5, g6, g7]
        · refine OgStep.calls ?_ ?_
          · rfl
          intro u W hS hp
          have h3 : u 3 = .slice A3 kn.length c3 := hp ⟨3, .data⟩ (by simp) rfl
          have h4 : u 4 = .int .u32 a := hp ⟨4, .data⟩ (by simp) rfl
          have h5 : u 5 = .agg #[.int .i64 0, .int .u8 0, .int .u8 0, .int .u8 0, .int .u8 0, .int .u8 0, .int .u8 0, .int .i64 n] := hp ⟨5, .data⟩ (by simp) rfl
          refine ⟨37, #[.slice A3 kn.length c3, .int .u32 a, .agg #[.int .i64 0, .int .u8 0, .int .u8 0, .int .u8 0, .int .u8 0, .int .u8 0, .int .u8 0, .int .i64 n]], ?_, calls_tF (tp_k (HPU.out W (R5.out.below hS))) rfl⟩
          simp only [ogMk, Act.put, List.setIfInBounds_toArray, List.set_cons_zero, List.set_cons_succ, Nat.zero_add, Nat.reduceAdd, List.take_succ_cons, List.take_zero, List.drop_succ_cons, List.drop_zero]
          simp [execOp, Act.eval, go_sem, h3, h4, h5]
        · refine OgStep.pure ?_ ?_
          · rfl
          intro u W hS hp
          obtain ⟨A7, c7, e7, h7⟩ : tF Rk ys er (u 6) W := hp ⟨6, .data⟩ (by simp) rfl
          refine ⟨.tuple #[.slice A7 ys.length c7, .int .i64 er], ?_, ⟨A7, c7, rfl, h7⟩⟩
          simp only [ogMk, Act.put, List.setIfInBounds_toArray, List.set_cons_zero, List.set_cons_succ, Nat.zero_add, Nat.reduceAdd, List.take_succ_cons, List.take_zero, List.drop_succ_cons, List.drop_zero]
          simp [execOp, Act.eval, go_sem, e7]
        · refine OgStep.pure ?_ ?_
          · rfl
          intro u W hS hp
          obtain ⟨A7, c7, e7, h7⟩ : tF Rk ys er (u 7) W := hp ⟨7, .data⟩ (by simp) rfl
          refine ⟨.slice A7 ys.length c7, ?_, ⟨A7, c7, rfl, h7⟩⟩
          simp only [ogMk, Act.put, List.setIfInBounds_toArray, List.set_cons_zero, List.set_cons_succ, Nat.zero_add, Nat.reduceAdd, List.take_succ_cons, List.take_zero, List.drop_succ_cons, List.drop_zero]
          simp [execOp, Act.eval, go_sem, e7]
        · refine OgStep.pure ?_ ?_
          · rfl
          intro u W hS hp
          obtain ⟨A7, c7, e7, h7⟩ : tF Rk ys er (u 7) W := hp ⟨7, .data⟩ (by simp) rfl
          refine ⟨.int .i64 er, ?_, rfl⟩
          simp only [ogMk, Act.put, List.setIfInBounds_toArray, List.set_cons_zero, List.set_cons_succ, Nat.zero_add, Nat.reduceAdd, List.take_succ_cons, List.take_zero, List.drop_succ_cons, List.drop_zero]
          simp [execOp, Act.eval, go_sem, e7]
        · refine OgStep.pure ?_ ?_
          · rfl
          intro u W hS hp
          obtain ⟨A7, c7, e7, h7⟩ : rF Rk ys (u 8) W := hp ⟨8, .data⟩ (by simp) rfl
          refine ⟨.slice A7 ys.length c7, ?_, ⟨A7, c7, rfl, h7⟩⟩
          simp only [ogMk, Act.put, List.setIfInBounds_toArray, List.set_cons_zero, List.set_cons_succ, Nat.zero_add, Nat.reduceAdd, List.take_succ_cons, List.take_zero, List.drop_succ_cons, List.drop_zero]
          simp [execOp, Act.eval, go_sem, e7]
        · refine OgStep.pure ?_ ?_
          · rfl
          intro u W hS hp
          have h9 : u 9 = .int .i64 er := hp ⟨9, .data⟩ (by simp) rfl
          refine ⟨.int .i64 er, ?_, rfl⟩
          simp only [ogMk, Act.put, List.setIfInBounds_toArray, List.set_cons_zero, List.set_cons_succ, Nat.zero_add, Nat.reduceAdd, List.take_succ_cons, List.take_zero, List.drop_succ_cons, List.drop_zero]
          simp [execOp, Act.eval, go_sem, h9]
      · intro u W hS hF
        have e0 : u 0 = .pointer (some ⟨b, 0, none⟩) := hF 0 (by decide)
        have e1 : u 1 = .pointer (some ⟨b, 0, none⟩) := hF 1 (by decide)
        have e2 : u 2 = .pointer (some ⟨b, 4, none⟩) := hF 2 (by decide)
        have e3 : u 3 = .slice A3 kn.length c3 := hF 3 (by decide)
        have e4 : u 4 = .int .u32 a := hF 4 (by decide)
        have e5 : u 5 = .agg #[.int .i64 0, .int .u8 0, .int .u8 0, .int .u8 0, .int .u8 0, .int .u8 0, .int .u8 0, .int .i64 n] := hF 5 (by decide)
        have e9 : u 9 = .int .i64 er := hF 9 (by decide)
        have e11 : u 11 = .int .i64 er := hF 11 (by decide)
        obtain ⟨A6, c6, e10, hc6, hR6⟩ : rF Rk ys (u 10) W := hF 10 (by decide)
        simp only [ogMk, Act.put, List.setIfInBounds_toArray, List.set_cons_zero, List.set_cons_succ, Nat.zero_add, Nat.reduceAdd, List.take_succ_cons, List.take_zero, List.drop_succ_cons, List.drop_zero]
        rw [e0, e1, e2, e3, e4, e5, e9, e11, e10]
        clear e0 e1 e2 e3 e4 e5 e9 e11 e10 hF
        have R6 := Lib.hid (R5.out.below hS)
        have S6 := Lib.hid (S5.out.below hS)
        have O6 := Lib.hid (O5.out.trans (Ob.of hS S5.out.lt))
        clear hS R5 S5 O5 X5
        go_wp2_with fail
        refine (rep_k ⟨n, q, hs, sw, kn, pbf, cs⟩ ⟨A1', c1', A2', c2', A3, c3, A4', c4', A5', c5'⟩ A6 ys c6 er b W S6.out R6.out hR6 hc6).mono ?_
        rintro e w7 ⟨rfl, hst, hO⟩
        have O7 := Lib.hid (O6.out.trans hO)
        have HST := Lib.hid hst
        clear hst hO R6 S6 O6 hR6
        by_cases h0 : er = 0
        · subst h0
          rw [upd_ok] at HQ
          have HST := Lib.hid (show ∃ r, Sb w7 b (stl ⟨n, q, hs, sw, ys, pbf, cs⟩ r) ∧ Lie w7 ⟨n, q, hs, sw, ys, pbf, cs⟩ r from by have := HST.out; rw [if_pos rfl] at this; exact this)
          go_wp2_with fail
          obtain ⟨r8, hS, hR⟩ := HST.out
          refine (cancelS_any ⟨n, q, hs, sw, ys, pbf, cs⟩ r8 a b w7 hS hR hc9).mono ?_
          rintro e w9 ⟨rfl, hst, hO⟩
          have O9 := Lib.hid (O7.out.trans hO)
          have HS9 := Lib.hid hst
          clear hst hO hS hR
          go_wp2_with fail
          go_ret
          rw [HQ.out]
          exact ⟨rfl, fun _ => HS9.out, O9.out⟩
        · rw [upd_no h0] at HQ
          go_wp2_with fail
          go_ret
          rw [HQ.out]
          exact ⟨rfl, fun h => absurd h h0, O7.out⟩
  · have HQ0 := HQH.out
    rw [if_neg hf] at HQ0
    simp only [if_neg hf] at HQ0
    clear HQH HLH
    have O5 := Lib.hid O1.out
    have X5 := Lib.hid X1.out
    have S5 := Lib.hid S1.out
    have R5 := Lib.hid R1.out
    simp only [stl] at S5
    have HPU := Lib.hid fun W (hW : Lie W ⟨n, q, hs, sw, kn, pb, cs⟩ ⟨A1, c1, A2, c2, A3, c3, A4, c4, A5, c5⟩) => HPU.out ⟨f, m0, m1, m2, m3, m4, m5, n⟩ A3 c3 W hW.k hW.kc
    obtain ⟨ys, hys⟩ : ∃ ys, Sn.putR kn a ⟨f, m0, m1, m2, m3, m4, m5, n⟩ = ys := ⟨_, rfl⟩
    obtain ⟨er, her⟩ : ∃ er, Sn.putC kn a ⟨f, m0, m1, m2, m3, m4, m5, n⟩ = er := ⟨_, rfl⟩
    rw [hys, her] at HPU HQ0
    simp only [Sn.sv] at HPU
    have HQ := Lib.hid HQ0
    clear HQ0 hys her S1 X1 R1 O1 BW1 HAN
    go_wp2_with fail
    refine wp_region_below [fx (.pointer (some ⟨b, 0, none⟩)), fx (.pointer (some ⟨b, 0, none⟩)), fx (.pointer (some ⟨b, 4, none⟩)), fx (.slice A3 kn.length c3), fx (.int .u32 a), fx (.agg #[.int .i64 f, .int .u8 m0, .int .u8 m1, .int .u8 m2, .int .u8 m3, .int .u8 m4, .int .u8 m5, .int .i64 n]), tF Rk ys er, tF Rk ys er, rF Rk ys, fx (.int .i64 er), rF Rk ys, fx (.int .i64 er)]
      (by kernel_rfl) (by kernel_rfl) (by kernel_rfl) ?_ ?_ ?_
    · simp only [List.mem_cons, List.not_mem_nil, or_false]
      rintro φ (rfl | rfl | rfl | rfl | rfl | rfl | rfl | rfl | rfl | rfl | rfl | rfl)
      all_goals first | exact stable_fx _ | exact stable_rF hld_h _ | exact stable_rF hld_s _ | exact stable_rF hld_k _ | exact stable_rF hld_p _ | exact stable_rF hld_c _ | exact stable_tF hld_h _ _ | exact stable_tF hld_s _ _ | exact stable_tF hld_k _ _ | exact stable_tF hld_p _ _ | exact stable_tF hld_c _ _
    · refine OgSteps.cons ?_ (OgSteps.cons ?_ (OgSteps.cons ?_ (OgSteps.cons ?_ (OgSteps.cons ?_ (OgSteps.cons ?_ (OgSteps.cons ?_ (OgSteps.cons ?_ (OgSteps.cons ?_ (OgSteps.cons ?_ (OgSteps.cons ?_ (OgSteps.cons ?_ (OgSteps.nil))))))))))))
      · refine OgStep.pure ?_ ?_
        · rfl
        intro u W hS hp
        refine ⟨.pointer (some ⟨b, 0, none⟩), ?_, rfl⟩
        simp only [ogMk, Act.put, List.setIfInBounds_toArray, List.set_cons_zero, List.set_cons_succ, Nat.zero_add, Nat.reduceAdd, List.take_succ_cons, List.take_zero, List.drop_succ_cons, List.drop_zero]
        simp [execOp, Act.eval, go_sem]
      · refine OgStep.pure ?_ ?_
        · rfl
        intro u W hS hp
        have h0 : u 0 = .pointer (some ⟨b, 0, none⟩) := hp ⟨0, .data⟩ (by simp) rfl
        refine ⟨.pointer (some ⟨b, 0, none⟩), ?_, rfl⟩
        simp only [ogMk, Act.put, List.setIfInBounds_toArray, List.set_cons_zero, List.set_cons_succ, Nat.zero_add, Nat.reduceAdd, List.take_succ_cons, List.take_zero, List.drop_succ_cons, List.drop_zero]
        simp [execOp, Act.eval, go_sem, h0]
      · refine OgStep.pure ?_ ?_
        · rfl
        intro u W hS hp
        have h1 : u 1 = .pointer (some ⟨b, 0, none⟩) := hp ⟨1, .data⟩ (by simp) rfl
        refine ⟨.pointer (some ⟨b, 4, none⟩), ?_, rfl⟩
        simp only [ogMk, Act.put, List.setIfInBounds_toArray, List.set_cons_zero, List.set_cons_succ, Nat.zero_add, Nat.reduceAdd, List.take_succ_cons, List.take_zero, List.drop_succ_cons, List.drop_zero]
        simp [execOp, Act.eval, go_sem, h1]
      · refine OgStep.pure ?_ ?_
        · rfl
        intro u W hS hp
        have h2 : u 2 = .pointer (some ⟨b, 4, none⟩) := hp ⟨2, .data⟩ (by simp) rfl
        have k4 := (S5.out.below hS).cx.key 4 _ rfl
        (try dsimp only at k4)
        refine ⟨.slice A3 kn.length c3, ?_, rfl⟩
        simp only [ogMk, Act.put, List.setIfInBounds_toArray, List.set_cons_zero, List.set_cons_succ, Nat.zero_add, Nat.reduceAdd, List.take_succ_cons, List.take_zero, List.drop_succ_cons, List.drop_zero]
        simp [execOp, Act.eval, go_sem, h2, k4]
      · refine OgStep.pure ?_ ?_
        · rfl
        intro u W hS hp
        refine ⟨.int .u32 a, ?_, rfl⟩
        simp only [ogMk, Act.put, List.setIfInBounds_toArray, List.set_cons_zero, List.set_cons_succ, Nat.zero_add, Nat.reduceAdd, List.take_succ_cons, List.take_zero, List.drop_succ_cons, List.drop_zero]
        simp [execOp, Act.eval, go_sem]
      · refine OgStep.pure ?_ ?_
        · rfl
        intro u W hS hp
        have G := Cx.below X5.out hS
        have g0 := G.key 0 _ rfl
        have g1 := G.key 1 _ rfl
        have g2 := G.key 2 _ rfl
        have g3 := G.key 3 _ rfl
        have g4 := G.key 4 _ rfl
        have g5 := G.key 5 _ rfl
        have g6 := G.key 6 _ rfl
        have g7 := G.key 7 _ rfl
        (try dsimp only at g0 g1 g2 g3 g4 g5 g6 g7)
        refine ⟨.agg #[.int .i64 f, .int .u8 m0, .int .u8 m1, .int .u8 m2, .int .u8 m3, .int .u8 m4, .int .u8 m5, .int .i64 n], ?_, rfl⟩
        simp only [ogMk, Act.put, List.setIfInBounds_toArray, List.set_cons_zero, List.set_cons_succ, Nat.zero_add, Nat.reduceAdd, List.take_succ_cons, List.take_zero, List.drop_succ_cons, List.drop_zero]
        simp [execOp, Act.eval, go_sem, g0, g1, g2, g3, g4, g5, g6, g7]
      · refine OgStep.calls ?_ ?_
        · rfl
        intro u W hS hp
        have h3 : u 3 = .slice A3 kn.length c3 := hp ⟨3, .data⟩ (by simp) rfl
        have h4 : u 4 = .int .u32 a := hp ⟨4, .data⟩ (by simp) rfl
        have h5 : u 5 = .agg #[.int .i64 f, .int .u8 m0, .int .u8 m1, .int .u8 m2, .int .u8 m3, .int .u8 m4, .int .u8 m5, .int .i64 n] := hp ⟨5, .data⟩ (by simp) rfl
        refine ⟨37, #[.slice A3 kn.length c3, .int .u32 a, .agg #[.int .i64 f, .int .u8 m0, .int .u8 m1, .int .u8 m2, .int .u8 m3, .int .u8 m4, .int .u8 m5, .int .i64 n]], ?_, calls_tF (tp_k (HPU.out W (R5.out.below hS))) rfl⟩
        simp only [ogMk, Act.put, List.setIfInBounds_toArray, List.set_cons_zero, List.set_cons_succ, Nat.zero_add, Nat.reduceAdd, List.take_succ_cons, List.take_zero, List.drop_succ_cons, List.drop_zero]
        simp [execOp, Act.eval, go_sem, h3, h4, h5]
      · refine OgStep.pure ?_ ?_
        · rfl
        intro u W hS hp
        obtain ⟨A7, c7, e7, h7⟩ : tF Rk ys er (u 6) W := hp ⟨6, .data⟩ (by simp) rfl
        refine ⟨.tuple #[.slice A7 ys.length c7, .int .i64 er], ?_, ⟨A7, c7, rfl, h7⟩⟩
        simp only [ogMk, Act.put, List.setIfInBounds_toArray, List.set_cons_zero, List.set_cons_succ, Nat.zero_add, Nat.reduceAdd, List.take_succ_cons, List.take_zero, List.drop_succ_cons, List.drop_zero]
        simp [execOp, Act.eval, go_sem, e7]
      · refine OgStep.pure ?_ ?_
        · rfl
        intro u W hS hp
        obtain ⟨A7, c7, e7, h7⟩ : tF Rk ys er (u 7) W := hp ⟨7, .data⟩ (by simp) rfl
        refine ⟨.slice A7 ys.length c7, ?_, ⟨A7, c7, rfl, h7⟩⟩
        simp only [ogMk, Act.put, List.setIfInBounds_toArray, List.set_cons_zero, List.set_cons_succ, Nat.zero_add, Nat.reduceAdd, List.take_succ_cons, List.take_zero, List.drop_succ_cons, List.drop_zero]
        simp [execOp, Act.eval, go_sem, e7]
      · refine OgStep.pure ?_ ?_
        · rfl
        intro u W hS hp
        obtain ⟨A7, c7, e7, h7⟩ : tF Rk ys er (u 7) W := hp ⟨7, .data⟩ (by simp) rfl
        refine ⟨.int .i64 er, ?_, rfl⟩
        simp only [ogMk, Act.put, List.setIfInBounds_toArray, List.set_cons_zero, List.set_cons_succ, Nat.zero_add, Nat.reduceAdd, List.take_succ_cons, List.take_zero, List.drop_succ_cons, List.drop_zero]
        simp [execOp, Act.eval, go_sem, e7]
      · refine OgStep.pure ?_ ?_
        · rfl
        intro u W hS hp
        obtain ⟨A7, c7, e7, h7⟩ : rF Rk ys (u 8) W := hp ⟨8, .data⟩ (by simp) rfl
        refine ⟨.slice A7 ys.length c7, ?_, ⟨A7, c7, rfl, h7⟩⟩
        simp only [ogMk, Act.put, List.setIfInBounds_toArray, List.set_cons_zero, List.set_cons_succ, Nat.zero_add, Nat.reduceAdd, List.take_succ_cons, List.take_zero, List.drop_succ_cons, List.drop_zero]
        simp [execOp, Act.eval, go_sem, e7]
      · refine OgStep.pure ?_ ?_
        · rfl
        intro u W hS hp
        have h9 : u 9 = .int .i64 er := hp ⟨9, .data⟩ (by simp) rfl
        refine ⟨.int .i64 er, ?_, rfl⟩
        simp only [ogMk, Act.put, List.setIfInBounds_toArray, List.set_cons_zero, List.set_cons_succ, Nat.zero_add, Nat.reduceAdd, List.take_succ_cons, List.take_zero, List.drop_succ_cons, List.drop_zero]
        simp [execOp, Act.eval, go_sem, h9]
    · intro u W hS hF
      have e0 : u 0 = .pointer (some ⟨b, 0, none⟩) := hF 0 (by decide)
      have e1 : u 1 = .pointer (some ⟨b, 0, none⟩) := hF 1 (by decide)
      have e2 : u 2 = .pointer (some ⟨b, 4, none⟩) := hF 2 (by decide)
      have e3 : u 3 = .slice A3 kn.length c3 := hF 3 (by decide)
      have e4 : u 4 = .int .u32 a := hF 4 (by decide)
      have e5 : u 5 = .agg #[.int .i64 f, .int .u8 m0, .int .u8 m1, .int .u8 m2, .int .u8 m3, .int .u8 m4, .int .u8 m5, .int .i64 n] := hF 5 (by decide)
      have e9 : u 9 = .int .i64 er := hF 9 (by decide)
      have e11 : u 11 = .int .i64 er := hF 11 (by decide)
      obtain ⟨A6, c6, e10, hc6, hR6⟩ : rF Rk ys (u 10) W := hF 10 (by decide)
      simp only [ogMk, Act.put, List.setIfInBounds_toArray, List.set_cons_zero, List.set_cons_succ, Nat.zero_add, Nat.reduceAdd, List.take_succ_cons, List.take_zero, List.drop_succ_cons, List.drop_zero]
      rw [e0, e1, e2, e3, e4, e5, e9, e11, e10]
      clear e0 e1 e2 e3 e4 e5 e9 e11 e10 hF
      have R6 := Lib.hid (R5.out.below hS)
      have S6 := Lib.hid (S5.out.below hS)
      have O6 := Lib.hid (O5.out.trans (Ob.of hS S5.out.lt))
      clear hS R5 S5 O5 X5
      go_wp2_with fail
      refine (rep_k ⟨n, q, hs, sw, kn, pb, cs⟩ ⟨A1, c1, A2, c2, A3, c3, A4, c4, A5, c5⟩ A6 ys c6 er b W S6.out R6.out hR6 hc6).mono ?_
      rintro e w7 ⟨rfl, hst, hO⟩
      have O7 := Lib.hid (O6.out.trans hO)
      have HST := Lib.hid hst
      clear hst hO R6 S6 O6 hR6
      by_cases h0 : er = 0
      · subst h0
        rw [upd_ok] at HQ
        have HST := Lib.hid (show ∃ r, Sb w7 b (stl ⟨n, q, hs, sw, ys, pb, cs⟩ r) ∧ Lie w7 ⟨n, q, hs, sw, ys, pb, cs⟩ r from by have := HST.out; rw [if_pos rfl] at this; exact this)
        go_wp2_with fail
        obtain ⟨r8, hS, hR⟩ := HST.out
        refine (cancelS_any ⟨n, q, hs, sw, ys, pb, cs⟩ r8 a b w7 hS hR hc9).mono ?_
        rintro e w9 ⟨rfl, hst, hO⟩
        have O9 := Lib.hid (O7.out.trans hO)
        have HS9 := Lib.hid hst
        clear hst hO hS hR
        go_wp2_with fail
        go_ret
        rw [HQ.out]
        exact ⟨rfl, fun _ => HS9.out, O9.out⟩
      · rw [upd_no h0] at HQ
        go_wp2_with fail
        go_ret
        rw [HQ.out]
        exact ⟨rfl, fun h => absurd h h0, O7.out⟩
end Go.Proofs.YtilneflfeegnfaaGreat
namespace Go.Proofs.YtilneflfeegnfaaGreat
open Go.RowKit
def evl (e : Evt) : List Value := [.int .i64 e.k, .int .u32 e.h.a, .string e.h.T, .int .u8 e.h.m0, .int .u8 e.h.m1, .int .u8 e.h.m2, .int .u8 e.h.m3, .int .u8 e.h.m4, .int .u8 e.h.m5, .int .u32 e.b, .int .i64 e.n, .int .i64 e.s.f, .int .u8 e.s.m0, .int .u8 e.s.m1, .int .u8 e.s.m2, .int .u8 e.s.m3, .int .u8 e.s.m4, .int .u8 e.s.m5, .int .i64 e.s.t]
def evv (e : Evt) : Value := .agg (evl e).toArray
def Evx (e : Evt) : Obj := .cells (evl e).toArray 51
structure Evt.Ok (e : Evt) : Prop where
  h : e.h.ok
  b0 : 0 ≤ e.b
  b1 : e.b < 4294967296
def chL (x : Stt) (e : Evt) : Stt × List Pb.Pk × Int :=
  if e.k = 1 then upd x { x with hs := Hl.putR x.hs e.h } (Hl.putC x.hs e.h)
  else if e.k = 2 then upd x (stpO { x with hs := Hl.takeR x.hs e.h.a } e.h.a) (Hl.takeC x.hs e.h.a)
  else if e.k = 3 then upd x { x with sw := Sw.putR x.sw e.b e.n x.now } (Sw.putC x.sw e.b e.n)
  else if e.k = 4 then upd x { x with sw := Sw.takeR x.sw e.b e.n } (Sw.takeC x.sw e.b e.n)
  else if e.k = 5 then sawL x e.h.a e.s
  else if e.k = 6 then upd x { x with cs := (Cs.stO (fun g => g == 0) 1 x.now e.h.a x.cs).1 } (Cs.stO (fun g => g == 0) 1 x.now e.h.a x.cs).2
  else if e.k = 7 then upd x { x with cs := (Cs.stO (fun g => g == 0) 2 x.now e.h.a x.cs).1 } (Cs.stO (fun g => g == 0) 2 x.now e.h.a x.cs).2
  else (x, [], 12)
theorem doL_ch (c : Cf) (x : Stt) (e : Evt) (h : e.k ≠ 0) : doL c x e = chL x e := by
  unfold doL chL
  rw [if_neg h]
theorem upd_two (x y : Stt) (q : Int) : (upd x y q).2.1 = [] ∧ ((upd x y q).2.2 ≠ 0 → (upd x y q).1 = x) := by
  by_cases h : q = 0
  · subst h; exact ⟨rfl, fun h => absurd rfl h⟩
  · rw [upd_no h]; exact ⟨rfl, fun _ => rfl⟩
theorem sawL_two (x : Stt) (a : Int) (s : Sn.Sg) : (sawL x a s).2.1 = [] ∧ ((sawL x a s).2.2 ≠ 0 → (sawL x a s).1 = x) := by
  unfold sawL
  split
  · split
    · exact ⟨rfl, fun _ => rfl⟩
    · exact upd_two _ _ _
  · exact upd_two _ _ _
theorem chL_two (x : Stt) (e : Evt) : (chL x e).2.1 = [] ∧ ((chL x e).2.2 ≠ 0 → (chL x e).1 = x) := by
  unfold chL
  split
  · exact upd_two _ _ _
  split
  · exact upd_two _ _ _
  split
  · exact upd_two _ _ _
  split
  · exact upd_two _ _ _
  split
  · exact sawL_two _ _ _
  split
  · exact upd_two _ _ _
  split
  · exact upd_two _ _ _
  · exact ⟨rfl, fun _ => rfl⟩
theorem drS_cp (x : Stt) (a : Int) : (Hl.takeC x.hs a = 0 → drS x a = (upd x (stpO { x with hs := Hl.takeR x.hs a } a) (Hl.takeC x.hs a)).1) ∧ (upd x (stpO { x with hs := Hl.takeR x.hs a } a) (Hl.takeC x.hs a)).2.2 = Hl.takeC x.hs a := by
  unfold drS
  by_cases h : Hl.takeC x.hs a = 0
  · rw [if_pos h, h]; exact ⟨fun _ => rfl, rfl⟩
  · rw [if_neg h, upd_no h]; exact ⟨fun hh => absurd hh h, rfl⟩
theorem pp_cp {w w' : World} {b : Nat} {x y : Stt} {q : Int} {e : Ending} (h : PP w b (if q = 0 then y else x) (.returned (.int .i64 q)) e w') : CP w b (upd x y q) e w' := by
  obtain ⟨he, hs, ho⟩ := h
  by_cases hq : q = 0
  · subst hq
    rw [if_pos rfl] at hs
    exact ⟨he, fun _ => hs, ho⟩
  · rw [upd_no hq]
    exact ⟨he, fun hh => absurd hh hq, ho⟩
theorem cp_ob {w0 w w' : World} {b : Nat} {D : Stt × List Pb.Pk × Int} {e : Ending} (h : CP w b D e w') (k : Ob b w0 w) : CP w0 b D e w' := ⟨h.1, h.2.1, k.trans h.2.2⟩
set_option maxRecDepth 100000 in
set_option maxHeartbeats 16000000 in
theorem changeS_any (x : Stt) (r : Rws) (e : Evt) (b : Nat) (w : World) (H : Sb w b (stl x r)) (h : Lie w x r) (hi : In x) (he : e.Ok) :
    Calls Tryz.prog 28 #[.pointer (some ⟨b, 0, none⟩), evv e] w (CP w b (chL x e)) := by
  have HQ0 := show chL x e = _ from by unfold chL; rfl
  have HDR := Lib.hid fun W H h => dropS_any x r e.h.a b W H h hi.sz.h hi.sz.c he.h.1 he.h.2.1
  have HDC := Lib.hid (drS_cp x e.h.a)
  have HSW := Lib.hid fun W H h => sawS_any x r e.h.a e.s b W H h hi he.h.1 he.h.2.1
  have B0 := Lib.hid (show Below w.heap.size w (w.alloc (Evx e)) from (Below.refl _ w).alloc (Nat.le_refl _) _)
  have X0 := Lib.hid (show Cx (w.alloc (Evx e)) w.heap.size (evl e) from cx_box w _ _ 51 rfl)
  have S0 := Lib.hid (H.below B0.out)
  have R0 := Lib.hid (h.below B0.out)
  have O0 := Lib.hid (Ob.of B0.out H.lt)
  have LG := Lib.hid (show w.heap.size < (w.alloc (Evx e)).heap.size by simp)
  have HZ := Lib.hid hi.sz
  have HSU := Lib.hid hi.sv.u
  have HOK := Lib.hid he
  clear h H hi he
  obtain ⟨n, q, hs, sw, kn, pb, cs⟩ := x
  obtain ⟨A1, c1, A2, c2, A3, c3, A4, c4, A5, c5⟩ := r
  obtain ⟨k, ⟨a, o, p0, p1, p2, p3, p4, p5⟩, eb, en, ⟨sf, s0, s1, s2, s3, s4, s5, st⟩⟩ := e
  dsimp only at HQ0 HDR HDC HSW HOK
  simp only [evl] at X0
  simp only [evv, evl]
  have HQH := Lib.hid HQ0
  clear HQ0
  simp only [Evx, evl] at B0 X0 S0 R0 O0 LG
  have kk0 := X0.out.key 0 _ rfl
  have kk1 := X0.out.key 1 _ rfl
  (try dsimp only at kk0 kk1)
  go_enter Tryz.func28, Tryz.ntmps28
  go_upto_region 2 with fail
  change (Code.region _ _ _).wp _ _ _ (w.alloc (.cells #[.int .i64 k, .int .u32 a, .string o, .int .u8 p0, .int .u8 p1, .int .u8 p2, .int .u8 p3, .int .u8 p4, .int .u8 p5, .int .u32 eb, .int .i64 en, .int .i64 sf, .int .u8 s0, .int .u8 s1, .int .u8 s2, .int .u8 s3, .int .u8 s4, .int .u8 s5, .int .i64 st] 51))
  generalize w.alloc (.cells #[.int .i64 k, .int .u32 a, .string o, .int .u8 p0, .int .u8 p1, .int .u8 p2, .int .u8 p3, .int .u8 p4, .int .u8 p5, .int .u32 eb, .int .i64 en, .int .i64 sf, .int .u8 s0, .int .u8 s1, .int .u8 s2, .int .u8 s3, .int .u8 s4, .int .u8 s5, .int .i64 st] 51) = W0 at *
  have X1 := X0
  by_cases h1 : k = 1
  · subst h1
    have HQ0 := HQH.out
    rw [if_pos rfl] at HQ0
    have HPU := fun W (hW : Lie W ⟨n, q, hs, sw, kn, pb, cs⟩ ⟨A1, c1, A2, c2, A3, c3, A4, c4, A5, c5⟩) => tp_h (Hl.put_any ⟨a, o, p0, p1, p2, p3, p4, p5⟩ A1 hs c1 W HOK.out.h hW.h hW.hc HZ.out.h)
    obtain ⟨ys, hys⟩ : ∃ ys, Hl.putR hs ⟨a, o, p0, p1, p2, p3, p4, p5⟩ = ys := ⟨_, rfl⟩
    obtain ⟨er, her⟩ : ∃ er, Hl.putC hs ⟨a, o, p0, p1, p2, p3, p4, p5⟩ = er := ⟨_, rfl⟩
    rw [hys, her] at HPU HQ0
    (try simp only [Hl.hv] at HPU)
    have HQ := Lib.hid HQ0
    clear HQ0 hys her
    go_wp2_with fail
    refine wp_region_below [fx (.pointer (some ⟨b, 0, none⟩)), fx (.pointer (some ⟨b, 0, none⟩)), fx (.pointer (some ⟨b, 2, none⟩)), fx (.slice A1 hs.length c1), fx (.pointer (some ⟨w.heap.size, 1, none⟩)), fx (.agg #[.int .u32 a, .string o, .int .u8 p0, .int .u8 p1, .int .u8 p2, .int .u8 p3, .int .u8 p4, .int .u8 p5]), tF Rh ys er, tF Rh ys er, rF Rh ys, fx (.int .i64 er), rF Rh ys, fx (.int .i64 er)]
      (by kernel_rfl) (by kernel_rfl) (by kernel_rfl) ?_ ?_ ?_
    · simp only [List.mem_cons, List.not_mem_nil, or_false]
      rintro φ (rfl | rfl | rfl | rfl | rfl | rfl | rfl | rfl | rfl | rfl | rfl | rfl)
      all_goals first | exact stable_fx _ | exact stable_rF hld_h _ | exact stable_rF hld_s _ | exact stable_rF hld_k _ | exact stable_rF hld_p _ | exact stable_rF hld_c _ | exact stable_tF hld_h _ _ | exact stable_tF hld_s _ _ | exact stable_tF hld_k _ _ | exact stable_tF hld_p _ _ | exact stable_tF hld_c _ _
    · refine OgSteps.cons ?_ (OgSteps.cons ?_ (OgSteps.cons ?_ (OgSteps.cons ?_ (OgSteps.cons ?_ (OgSteps.cons ?_ (OgSteps.cons ?_ (OgSteps.cons ?_ (OgSteps.cons ?_ (OgSteps.cons ?_ (OgSteps.cons ?_ (OgSteps.cons ?_ (OgSteps.nil))))))))))))
      · refine OgStep.pure ?_ ?_
        · rfl
        intro u W hS hp
        refine ⟨.pointer (some ⟨b, 0, none⟩), ?_, rfl⟩
        simp only [ogMk, Act.put, List.setIfInBounds_toArray, List.set_cons_zero, List.set_cons_succ, Nat.zero_add, Nat.reduceAdd, List.take_succ_cons, List.take_zero, List.drop_succ_cons, List.drop_zero]
        simp [execOp, Act.eval, go_sem]
      · refine OgStep.pure ?_ ?_
        · rfl
        intro u W hS hp
        have h0 : u 0 = .pointer (some ⟨b, 0, none⟩) := hp ⟨0, .data⟩ (by simp) rfl
        refine ⟨.pointer (some ⟨b, 0, none⟩), ?_, rfl⟩
        simp only [ogMk, Act.put, List.setIfInBounds_toArray, List.set_cons_zero, List.set_cons_succ, Nat.zero_add, Nat.reduceAdd, List.take_succ_cons, List.take_zero, List.drop_succ_cons, List.drop_zero]
        simp [execOp, Act.eval, go_sem, h0]
      · refine OgStep.pure ?_ ?_
        · rfl
        intro u W hS hp
        have h1 : u 1 = .pointer (some ⟨b, 0, none⟩) := hp ⟨1, .data⟩ (by simp) rfl
        refine ⟨.pointer (some ⟨b, 2, none⟩), ?_, rfl⟩
        simp only [ogMk, Act.put, List.setIfInBounds_toArray, List.set_cons_zero, List.set_cons_succ, Nat.zero_add, Nat.reduceAdd, List.take_succ_cons, List.take_zero, List.drop_succ_cons, List.drop_zero]
        simp [execOp, Act.eval, go_sem, h1]
      · refine OgStep.pure ?_ ?_
        · rfl
        intro u W hS hp
        have h2 : u 2 = .pointer (some ⟨b, 2, none⟩) := hp ⟨2, .data⟩ (by simp) rfl
        have k := (S0.out.below hS).cx.key 2 _ rfl
        (try dsimp only at k)
        refine ⟨.slice A1 hs.length c1, ?_, rfl⟩
        simp only [ogMk, Act.put, List.setIfInBounds_toArray, List.set_cons_zero, List.set_cons_succ, Nat.zero_add, Nat.reduceAdd, List.take_succ_cons, List.take_zero, List.drop_succ_cons, List.drop_zero]
        simp [execOp, Act.eval, go_sem, h2, k]
      · refine OgStep.pure ?_ ?_
        · rfl
        intro u W hS hp
        refine ⟨.pointer (some ⟨w.heap.size, 1, none⟩), ?_, rfl⟩
        simp only [ogMk, Act.put, List.setIfInBounds_toArray, List.set_cons_zero, List.set_cons_succ, Nat.zero_add, Nat.reduceAdd, List.take_succ_cons, List.take_zero, List.drop_succ_cons, List.drop_zero]
        simp [execOp, Act.eval, go_sem]
      · refine OgStep.pure ?_ ?_
        · rfl
        intro u W hS hp
        have h4 : u 4 = .pointer (some ⟨w.heap.size, 1, none⟩) := hp ⟨4, .data⟩ (by simp) rfl
        have G := (X1.out.keep hS LG.out)
        have g1 := G.key 1 _ rfl
        have g2 := G.key 2 _ rfl
        have g3 := G.key 3 _ rfl
        have g4 := G.key 4 _ rfl
        have g5 := G.key 5 _ rfl
        have g6 := G.key 6 _ rfl
        have g7 := G.key 7 _ rfl
        have g8 := G.key 8 _ rfl
        (try dsimp only at g1 g2 g3 g4 g5 g6 g7 g8)
        refine ⟨.agg #[.int .u32 a, .string o, .int .u8 p0, .int .u8 p1, .int .u8 p2, .int .u8 p3, .int .u8 p4, .int .u8 p5], ?_, rfl⟩
        simp only [ogMk, Act.put, List.setIfInBounds_toArray, List.set_cons_zero, List.set_cons_succ, Nat.zero_add, Nat.reduceAdd, List.take_succ_cons, List.take_zero, List.drop_succ_cons, List.drop_zero]
        simp [execOp, Act.eval, go_sem, h4, g1, g2, g3, g4, g5, g6, g7, g8]
      · refine OgStep.calls ?_ ?_
        · rfl
        intro u W hS hp
        have h3 : u 3 = .slice A1 hs.length c1 := hp ⟨3, .data⟩ (by simp) rfl
        have h5 : u 5 = .agg #[.int .u32 a, .string o, .int .u8 p0, .int .u8 p1, .int .u8 p2, .int .u8 p3, .int .u8 p4, .int .u8 p5] := hp ⟨5, .data⟩ (by simp) rfl
        refine ⟨30, #[.slice A1 hs.length c1, .agg #[.int .u32 a, .string o, .int .u8 p0, .int .u8 p1, .int .u8 p2, .int .u8 p3, .int .u8 p4, .int .u8 p5]], ?_, calls_tF (HPU W (R0.out.below hS)) rfl⟩
        simp only [ogMk, Act.put, List.setIfInBounds_toArray, List.set_cons_zero, List.set_cons_succ, Nat.zero_add, Nat.reduceAdd, List.take_succ_cons, List.take_zero, List.drop_succ_cons, List.drop_zero]
        simp [execOp, Act.eval, go_sem, h3, h5]
      · refine OgStep.pure ?_ ?_
        · rfl
        intro u W hS hp
        obtain ⟨A7, c7, e7, h7⟩ : tF Rh ys er (u 6) W := hp ⟨6, .data⟩ (by simp) rfl
        refine ⟨.tuple #[.slice A7 ys.length c7, .int .i64 er], ?_, ⟨A7, c7, rfl, h7⟩⟩
        simp only [ogMk, Act.put, List.setIfInBounds_toArray, List.set_cons_zero, List.set_cons_succ, Nat.zero_add, Nat.reduceAdd, List.take_succ_cons, List.take_zero, List.drop_succ_cons, List.drop_zero]
        simp [execOp, Act.eval, go_sem, e7]
      · refine OgStep.pure ?_ ?_
        · rfl
        intro u W hS hp
        obtain ⟨A7, c7, e7, h7⟩ : tF Rh ys er (u 7) W := hp ⟨7, .data⟩ (by simp) rfl
        refine ⟨.slice A7 ys.length c7, ?_, ⟨A7, c7, rfl, h7⟩⟩
        simp only [ogMk, Act.put, List.setIfInBounds_toArray, List.set_cons_zero, List.set_cons_succ, Nat.zero_add, Nat.reduceAdd, List.take_succ_cons, List.take_zero, List.drop_succ_cons, List.drop_zero]
        simp [execOp, Act.eval, go_sem, e7]
      · refine OgStep.pure ?_ ?_
        · rfl
        intro u W hS hp
        obtain ⟨A7, c7, e7, h7⟩ : tF Rh ys er (u 7) W := hp ⟨7, .data⟩ (by simp) rfl
        refine ⟨.int .i64 er, ?_, rfl⟩
        simp only [ogMk, Act.put, List.setIfInBounds_toArray, List.set_cons_zero, List.set_cons_succ, Nat.zero_add, Nat.reduceAdd, List.take_succ_cons, List.take_zero, List.drop_succ_cons, List.drop_zero]
        simp [execOp, Act.eval, go_sem, e7]
      · refine OgStep.pure ?_ ?_
        · rfl
        intro u W hS hp
        obtain ⟨A7, c7, e7, h7⟩ : rF Rh ys (u 8) W := hp ⟨8, .data⟩ (by simp) rfl
        refine ⟨.slice A7 ys.length c7, ?_, ⟨A7, c7, rfl, h7⟩⟩
        simp only [ogMk, Act.put, List.setIfInBounds_toArray, List.set_cons_zero, List.set_cons_succ, Nat.zero_add, Nat.reduceAdd, List.take_succ_cons, List.take_zero, List.drop_succ_cons, List.drop_zero]
        simp [execOp, Act.eval, go_sem, e7]
      · refine OgStep.pure ?_ ?_
        · rfl
        intro u W hS hp
        have h9 : u 9 = .int .i64 er := hp ⟨9, .data⟩ (by simp) rfl
        refine ⟨.int .i64 er, ?_, rfl⟩
        simp only [ogMk, Act.put, List.setIfInBounds_toArray, List.set_cons_zero, List.set_cons_succ, Nat.zero_add, Nat.reduceAdd, List.take_succ_cons, List.take_zero, List.drop_succ_cons, List.drop_zero]
        simp [execOp, Act.eval, go_sem, h9]
    · intro u W hS hF
      have e0 : u 0 = .pointer (some ⟨b, 0, none⟩) := hF 0 (by decide)
      have e1 : u 1 = .pointer (some ⟨b, 0, none⟩) := hF 1 (by decide)
      have e2 : u 2 = .pointer (some ⟨b, 2, none⟩) := hF 2 (by decide)
      have e3 : u 3 = .slice A1 hs.length c1 := hF 3 (by decide)
      have e4 : u 4 = .pointer (some ⟨w.heap.size, 1, none⟩) := hF 4 (by decide)
      have e5 : u 5 = .agg #[.int .u32 a, .string o, .int .u8 p0, .int .u8 p1, .int .u8 p2, .int .u8 p3, .int .u8 p4, .int .u8 p5] := hF 5 (by decide)
      have e9 : u 9 = .int .i64 er := hF 9 (by decide)
      have e11 : u 11 = .int .i64 er := hF 11 (by decide)
      obtain ⟨A6, c6, e10, hc6, hR6⟩ : rF Rh ys (u 10) W := hF 10 (by decide)
      simp only [ogMk, Act.put, List.setIfInBounds_toArray, List.set_cons_zero, List.set_cons_succ, Nat.zero_add, Nat.reduceAdd, List.take_succ_cons, List.take_zero, List.drop_succ_cons, List.drop_zero]
      rw [e0, e1, e2, e3, e4, e5, e9, e11, e10]
      clear e0 e1 e2 e3 e4 e5 e9 e11 e10 hF
      have R6 := Lib.hid (R0.out.below hS)
      have S6 := Lib.hid (S0.out.below hS)
      have O6 := Lib.hid (O0.out.trans (Ob.of hS S0.out.lt))
      clear hS
      go_wp2_with fail
      refine (rep_h ⟨n, q, hs, sw, kn, pb, cs⟩ ⟨A1, c1, A2, c2, A3, c3, A4, c4, A5, c5⟩ A6 ys c6 er b W S6.out R6.out hR6 hc6).mono ?_
      rintro e w7 hpp
      have HCP := Lib.hid (cp_ob (pp_cp hpp) O6.out)
      obtain ⟨rfl, -⟩ := hpp
      go_wp2_with fail
      go_ret
      rw [HQ.out]
      exact HCP.out
  have HQH := Lib.hid (by have := HQH.out; rw [if_neg h1] at this; exact this)
  have hb1 : (k == 1) = false := by simpa using h1
  by_cases h2 : k = 2
  · subst h2
    have HQ0 := HQH.out
    rw [if_pos rfl] at HQ0
    have HQ := Lib.hid HQ0
    clear HQ0
    go_wp2_with fail
    refine (HDR.out _ S0.out R0.out).mono ?_
    rintro e w1 ⟨rfl, hst, hO⟩
    have HST := Lib.hid hst
    have HO := Lib.hid (O0.out.trans hO)
    clear hst hO
    go_wp2_with fail
    go_ret
    rw [HQ.out]
    exact ⟨by rw [HDC.out.2]; rfl, fun hh => by rw [← HDC.out.1 (by rw [← HDC.out.2]; exact hh)]; exact HST.out, HO.out⟩
  have HQH := Lib.hid (by have := HQH.out; rw [if_neg h2] at this; exact this)
  have hb2 : (k == 2) = false := by simpa using h2
  by_cases h3 : k = 3
  · subst h3
    have HQ0 := HQH.out
    rw [if_pos rfl] at HQ0
    have HPU := fun W (hW : Lie W ⟨n, q, hs, sw, kn, pb, cs⟩ ⟨A1, c1, A2, c2, A3, c3, A4, c4, A5, c5⟩) => tp_s (Sw.put_any eb en n A2 sw c2 W hW.s HSU.out hW.sc (by have := HZ.out.s; dsimp only at this; omega) HOK.out.b0 HOK.out.b1)
    obtain ⟨ys, hys⟩ : ∃ ys, Sw.putR sw eb en n = ys := ⟨_, rfl⟩
    obtain ⟨er, her⟩ : ∃ er, Sw.putC sw eb en = er := ⟨_, rfl⟩
    rw [hys, her] at HPU HQ0
    (try simp only [Hl.hv] at HPU)
    have HQ := Lib.hid HQ0
    clear HQ0 hys her
    go_wp2_with fail
    refine wp_region_below [fx (.pointer (some ⟨b, 0, none⟩)), fx (.pointer (some ⟨b, 0, none⟩)), fx (.pointer (some ⟨b, 3, none⟩)), fx (.slice A2 sw.length c2), fx (.pointer (some ⟨w.heap.size, 9, none⟩)), fx (.agg #[.int .u32 eb, .int .i64 en]), fx (.pointer (some ⟨b, 0, none⟩)), fx (.pointer (some ⟨b, 0, none⟩)), fx (.pointer (some ⟨b, 0, none⟩)), fx (.int .i64 n), tF Rs ys er, tF Rs ys er, rF Rs ys, fx (.int .i64 er), rF Rs ys, fx (.int .i64 er)]
      (by kernel_rfl) (by kernel_rfl) (by kernel_rfl) ?_ ?_ ?_
    · simp only [List.mem_cons, List.not_mem_nil, or_false]
      rintro φ (rfl | rfl | rfl | rfl | rfl | rfl | rfl | rfl | rfl | rfl | rfl | rfl | rfl | rfl | rfl | rfl)
      all_goals first | exact stable_fx _ | exact stable_rF hld_h _ | exact stable_rF hld_s _ | exact stable_rF hld_k _ | exact stable_rF hld_p _ | exact stable_rF hld_c _ | exact stable_tF hld_h _ _ | exact stable_tF hld_s _ _ | exact stable_tF hld_k _ _ | exact stable_tF hld_p _ _ | exact stable_tF hld_c _ _
    · refine OgSteps.cons ?_ (OgSteps.cons ?_ (OgSteps.cons ?_ (OgSteps.cons ?_ (OgSteps.cons ?_ (OgSteps.cons ?_ (OgSteps.cons ?_ (OgSteps.cons ?_ (OgSteps.cons ?_ (OgSteps.cons ?_ (OgSteps.cons ?_ (OgSteps.cons ?_ (OgSteps.cons ?_ (OgSteps.cons ?_ (OgSteps.cons ?_ (OgSteps.cons ?_ (OgSteps.nil))))))))))))))))
      · refine OgStep.pure ?_ ?_
        · rfl
        intro u W hS hp
        refine ⟨.pointer (some ⟨b, 0, none⟩), ?_, rfl⟩
        simp only [ogMk, Act.put, List.setIfInBounds_toArray, List.set_cons_zero, List.set_cons_succ, Nat.zero_add, Nat.reduceAdd, List.take_succ_cons, List.take_zero, List.drop_succ_cons, List.drop_zero]
        simp [execOp, Act.eval, go_sem]
      · refine OgStep.pure ?_ ?_
        · rfl
        intro u W hS hp
        have h0 : u 0 = .pointer (some ⟨b, 0, none⟩) := hp ⟨0, .data⟩ (by simp) rfl
        refine ⟨.pointer (some ⟨b, 0, none⟩), ?_, rfl⟩
        simp only [ogMk, Act.put, List.setIfInBounds_toArray, List.set_cons_zero, List.set_cons_succ, Nat.zero_add, Nat.reduceAdd, List.take_succ_cons, List.take_zero, List.drop_succ_cons, List.drop_zero]
        simp [execOp, Act.eval, go_sem, h0]
      · refine OgStep.pure ?_ ?_
        · rfl
        intro u W hS hp
        have h1 : u 1 = .pointer (some ⟨b, 0, none⟩) := hp ⟨1, .data⟩ (by simp) rfl
        refine ⟨.pointer (some ⟨b, 3, none⟩), ?_, rfl⟩
        simp only [ogMk, Act.put, List.setIfInBounds_toArray, List.set_cons_zero, List.set_cons_succ, Nat.zero_add, Nat.reduceAdd, List.take_succ_cons, List.take_zero, List.drop_succ_cons, List.drop_zero]
        simp [execOp, Act.eval, go_sem, h1]
      · refine OgStep.pure ?_ ?_
        · rfl
        intro u W hS hp
        have h2 : u 2 = .pointer (some ⟨b, 3, none⟩) := hp ⟨2, .data⟩ (by simp) rfl
        have k := (S0.out.below hS).cx.key 3 _ rfl
        (try dsimp only at k)
        refine ⟨.slice A2 sw.length c2, ?_, rfl⟩
        simp only [ogMk, Act.put, List.setIfInBounds_toArray, List.set_cons_zero, List.set_cons_succ, Nat.zero_add, Nat.reduceAdd, List.take_succ_cons, List.take_zero, List.drop_succ_cons, List.drop_zero]
        simp [execOp, Act.eval, go_sem, h2, k]
      · refine OgStep.pure ?_ ?_
        · rfl
        intro u W hS hp
        refine ⟨.pointer (some ⟨w.heap.size, 9, none⟩), ?_, rfl⟩
        simp only [ogMk, Act.put, List.setIfInBounds_toArray, List.set_cons_zero, List.set_cons_succ, Nat.zero_add, Nat.reduceAdd, List.take_succ_cons, List.take_zero, List.drop_succ_cons, List.drop_zero]
        simp [execOp, Act.eval, go_sem]
      · refine OgStep.pure ?_ ?_
        · rfl
        intro u W hS hp
        have h4 : u 4 = .pointer (some ⟨w.heap.size, 9, none⟩) := hp ⟨4, .data⟩ (by simp) rfl
        have G := (X1.out.keep hS LG.out)
        have g9 := G.key 9 _ rfl
        have g10 := G.key 10 _ rfl
        (try dsimp only at g9 g10)
        refine ⟨.agg #[.int .u32 eb, .int .i64 en], ?_, rfl⟩
        simp only [ogMk, Act.put, List.setIfInBounds_toArray, List.set_cons_zero, List.set_cons_succ, Nat.zero_add, Nat.reduceAdd, List.take_succ_cons, List.take_zero, List.drop_succ_cons, List.drop_zero]
        simp [execOp, Act.eval, go_sem, h4, g9, g10]
      · refine OgStep.pure ?_ ?_
        · rfl
        intro u W hS hp
        refine ⟨.pointer (some ⟨b, 0, none⟩), ?_, rfl⟩
        simp only [ogMk, Act.put, List.setIfInBounds_toArray, List.set_cons_zero, List.set_cons_succ, Nat.zero_add, Nat.reduceAdd, List.take_succ_cons, List.take_zero, List.drop_succ_cons, List.drop_zero]
        simp [execOp, Act.eval, go_sem]
      · refine OgStep.pure ?_ ?_
        · rfl
        intro u W hS hp
        have h6 : u 6 = .pointer (some ⟨b, 0, none⟩) := hp ⟨6, .data⟩ (by simp) rfl
        refine ⟨.pointer (some ⟨b, 0, none⟩), ?_, rfl⟩
        simp only [ogMk, Act.put, List.setIfInBounds_toArray, List.set_cons_zero, List.set_cons_succ, Nat.zero_add, Nat.reduceAdd, List.take_succ_cons, List.take_zero, List.drop_succ_cons, List.drop_zero]
        simp [execOp, Act.eval, go_sem, h6]
      · refine OgStep.pure ?_ ?_
        · rfl
        intro u W hS hp
        have h7 : u 7 = .pointer (some ⟨b, 0, none⟩) := hp ⟨7, .data⟩ (by simp) rfl
        refine ⟨.pointer (some ⟨b, 0, none⟩), ?_, rfl⟩
        simp only [ogMk, Act.put, List.setIfInBounds_toArray, List.set_cons_zero, List.set_cons_succ, Nat.zero_add, Nat.reduceAdd, List.take_succ_cons, List.take_zero, List.drop_succ_cons, List.drop_zero]
        simp [execOp, Act.eval, go_sem, h7]
      · refine OgStep.pure ?_ ?_
        · rfl
        intro u W hS hp
        have h8 : u 8 = .pointer (some ⟨b, 0, none⟩) := hp ⟨8, .data⟩ (by simp) rfl
        have kn0 := (S0.out.below hS).cx.key 0 _ rfl
        (try dsimp only at kn0)
        refine ⟨.int .i64 n, ?_, rfl⟩
        simp only [ogMk, Act.put, List.setIfInBounds_toArray, List.set_cons_zero, List.set_cons_succ, Nat.zero_add, Nat.reduceAdd, List.take_succ_cons, List.take_zero, List.drop_succ_cons, List.drop_zero]
        simp [execOp, Act.eval, go_sem, h8, kn0]
      · refine OgStep.calls ?_ ?_
        · rfl
        intro u W hS hp
        have h3 : u 3 = .slice A2 sw.length c2 := hp ⟨3, .data⟩ (by simp) rfl
        have h5 : u 5 = .agg #[.int .u32 eb, .int .i64 en] := hp ⟨5, .data⟩ (by simp) rfl
        have h9 : u 9 = .int .i64 n := hp ⟨9, .data⟩ (by simp) rfl
        refine ⟨33, #[.slice A2 sw.length c2, .agg #[.int .u32 eb, .int .i64 en], .int .i64 n], ?_, calls_tF (HPU W (R0.out.below hS)) rfl⟩
        simp only [ogMk, Act.put, List.setIfInBounds_toArray, List.set_cons_zero, List.set_cons_succ, Nat.zero_add, Nat.reduceAdd, List.take_succ_cons, List.take_zero, List.drop_succ_cons, List.drop_zero]
        simp [execOp, Act.eval, go_sem, h3, h5, h9]
      · refine OgStep.pure ?_ ?_
        · rfl
        intro u W hS hp
        obtain ⟨A7, c7, e7, h7⟩ : tF Rs ys er (u 10) W := hp ⟨10, .data⟩ (by simp) rfl
        refine ⟨.tuple #[.slice A7 ys.length c7, .int .i64 er], ?_, ⟨A7, c7, rfl, h7⟩⟩
        simp only [ogMk, Act.put, List.setIfInBounds_toArray, List.set_cons_zero, List.set_cons_succ, Nat.zero_add, Nat.reduceAdd, List.take_succ_cons, List.take_zero, List.drop_succ_cons, List.drop_zero]
        simp [execOp, Act.eval, go_sem, e7]
      · refine OgStep.pure ?_ ?_
        · rfl
        intro u W hS hp
        obtain ⟨A7, c7, e7, h7⟩ : tF Rs ys er (u 11) W := hp ⟨11, .data⟩ (by simp) rfl
        refine ⟨.slice A7 ys.length c7, ?_, ⟨A7, c7, rfl, h7⟩⟩
        simp only [ogMk, Act.put, List.setIfInBounds_toArray, List.set_cons_zero, List.set_cons_succ, Nat.zero_add, Nat.reduceAdd, List.take_succ_cons, List.take_zero, List.drop_succ_cons, List.drop_zero]
        simp [execOp, Act.eval, go_sem, e7]
      · refine OgStep.pure ?_ ?_
        · rfl
        intro u W hS hp
        obtain ⟨A7, c7, e7, h7⟩ : tF Rs ys er (u 11) W := hp ⟨11, .data⟩ (by simp) rfl
        refine ⟨.int .i64 er, ?_, rfl⟩
        simp only [ogMk, Act.put, List.setIfInBounds_toArray, List.set_cons_zero, List.set_cons_succ, Nat.zero_add, Nat.reduceAdd, List.take_succ_cons, List.take_zero, List.drop_succ_cons, List.drop_zero]
        simp [execOp, Act.eval, go_sem, e7]
      · refine OgStep.pure ?_ ?_
        · rfl
        intro u W hS hp
        obtain ⟨A7, c7, e7, h7⟩ : rF Rs ys (u 12) W := hp ⟨12, .data⟩ (by simp) rfl
        refine ⟨.slice A7 ys.length c7, ?_, ⟨A7, c7, rfl, h7⟩⟩
        simp only [ogMk, Act.put, List.setIfInBounds_toArray, List.set_cons_zero, List.set_cons_succ, Nat.zero_add, Nat.reduceAdd, List.take_succ_cons, List.take_zero, List.drop_succ_cons, List.drop_zero]
        simp [execOp, Act.eval, go_sem, e7]
      · refine OgStep.pure ?_ ?_
        · rfl
        intro u W hS hp
        have h13 : u 13 = .int .i64 er := hp ⟨13, .data⟩ (by simp) rfl
        refine ⟨.int .i64 er, ?_, rfl⟩
        simp only [ogMk, Act.put, List.setIfInBounds_toArray, List.set_cons_zero, List.set_cons_succ, Nat.zero_add, Nat.reduceAdd, List.take_succ_cons, List.take_zero, List.drop_succ_cons, List.drop_zero]
        simp [execOp, Act.eval, go_sem, h13]
    · intro u W hS hF
      have e0 : u 0 = .pointer (some ⟨b, 0, none⟩) := hF 0 (by decide)
      have e1 : u 1 = .pointer (some ⟨b, 0, none⟩) := hF 1 (by decide)
      have e2 : u 2 = .pointer (some ⟨b, 3, none⟩) := hF 2 (by decide)
      have e3 : u 3 = .slice A2 sw.length c2 := hF 3 (by decide)
      have e4 : u 4 = .pointer (some ⟨w.heap.size, 9, none⟩) := hF 4 (by decide)
      have e5 : u 5 = .agg #[.int .u32 eb, .int .i64 en] := hF 5 (by decide)
      have e6 : u 6 = .pointer (some ⟨b, 0, none⟩) := hF 6 (by decide)
      have e7 : u 7 = .pointer (some ⟨b, 0, none⟩) := hF 7 (by decide)
      have e8 : u 8 = .pointer (some ⟨b, 0, none⟩) := hF 8 (by decide)
      have e9 : u 9 = .int .i64 n := hF 9 (by decide)
      have e13 : u 13 = .int .i64 er := hF 13 (by decide)
      have e15 : u 15 = .int .i64 er := hF 15 (by decide)
      obtain ⟨A6, c6, e14, hc6, hR6⟩ : rF Rs ys (u 14) W := hF 14 (by decide)
      simp only [ogMk, Act.put, List.setIfInBounds_toArray, List.set_cons_zero, List.set_cons_succ, Nat.zero_add, Nat.reduceAdd, List.take_succ_cons, List.take_zero, List.drop_succ_cons, List.drop_zero]
      rw [e0, e1, e2, e3, e4, e5, e6, e7, e8, e9, e13, e15, e14]
      clear e0 e1 e2 e3 e4 e5 e6 e7 e8 e9 e13 e15 e14 hF
      have R6 := Lib.hid (R0.out.below hS)
      have S6 := Lib.hid (S0.out.below hS)
      have O6 := Lib.hid (O0.out.trans (Ob.of hS S0.out.lt))
      clear hS
      go_wp2_with fail
      refine (rep_s ⟨n, q, hs, sw, kn, pb, cs⟩ ⟨A1, c1, A2, c2, A3, c3, A4, c4, A5, c5⟩ A6 ys c6 er b W S6.out R6.out hR6 hc6).mono ?_
      rintro e w7 hpp
      have HCP := Lib.hid (cp_ob (pp_cp hpp) O6.out)
      obtain ⟨rfl, -⟩ := hpp
      go_wp2_with fail
      go_ret
      rw [HQ.out]
      exact HCP.out
  have HQH := Lib.hid (by have := HQH.out; rw [if_neg h3] at this; exact this)
  have hb3 : (k == 3) = false := by simpa using h3
  by_cases h4 : k = 4
  · subst h4
    have HQ0 := HQH.out
    rw [if_pos rfl] at HQ0
    have HPU := fun W (hW : Lie W ⟨n, q, hs, sw, kn, pb, cs⟩ ⟨A1, c1, A2, c2, A3, c3, A4, c4, A5, c5⟩) => tp_s (Sw.take_any eb en A2 sw c2 W hW.s hW.sc (by have := HZ.out.s; dsimp only at this; omega))
    obtain ⟨ys, hys⟩ : ∃ ys, Sw.takeR sw eb en = ys := ⟨_, rfl⟩
    obtain ⟨er, her⟩ : ∃ er, Sw.takeC sw eb en = er := ⟨_, rfl⟩
    rw [hys, her] at HPU HQ0
    (try simp only [Hl.hv] at HPU)
    have HQ := Lib.hid HQ0
    clear HQ0 hys her
    go_wp2_with fail
    refine wp_region_below [fx (.pointer (some ⟨b, 0, none⟩)), fx (.pointer (some ⟨b, 0, none⟩)), fx (.pointer (some ⟨b, 3, none⟩)), fx (.slice A2 sw.length c2), fx (.pointer (some ⟨w.heap.size, 9, none⟩)), fx (.agg #[.int .u32 eb, .int .i64 en]), tF Rs ys er, tF Rs ys er, rF Rs ys, fx (.int .i64 er), rF Rs ys, fx (.int .i64 er)]
      (by kernel_rfl) (by kernel_rfl) (by kernel_rfl) ?_ ?_ ?_
    · simp only [List.mem_cons, List.not_mem_nil, or_false]
      rintro φ (rfl | rfl | rfl | rfl | rfl | rfl | rfl | rfl | rfl | rfl | rfl | rfl)
      all_goals first | exact stable_fx _ | exact stable_rF hld_h _ | exact stable_rF hld_s _ | exact stable_rF hld_k _ | exact stable_rF hld_p _ | exact stable_rF hld_c _ | exact stable_tF hld_h _ _ | exact stable_tF hld_s _ _ | exact stable_tF hld_k _ _ | exact stable_tF hld_p _ _ | exact stable_tF hld_c _ _
    · refine OgSteps.cons ?_ (OgSteps.cons ?_ (OgSteps.cons ?_ (OgSteps.cons ?_ (OgSteps.cons ?_ (OgSteps.cons ?_ (OgSteps.cons ?_ (OgSteps.cons ?_ (OgSteps.cons ?_ (OgSteps.cons ?_ (OgSteps.cons ?_ (OgSteps.cons ?_ (OgSteps.nil))))))))))))
      · refine OgStep.pure ?_ ?_
        · rfl
        intro u W hS hp
        refine ⟨.pointer (some ⟨b, 0, none⟩), ?_, rfl⟩
        simp only [ogMk, Act.put, List.setIfInBounds_toArray, List.set_cons_zero, List.set_cons_succ, Nat.zero_add, Nat.reduceAdd, List.take_succ_cons, List.take_zero, List.drop_succ_cons, List.drop_zero]
        simp [execOp, Act.eval, go_sem]
      · refine OgStep.pure ?_ ?_
        · rfl
        intro u W hS hp
        have h0 : u 0 = .pointer (some ⟨b, 0, none⟩) := hp ⟨0, .data⟩ (by simp) rfl
        refine ⟨.pointer (some ⟨b, 0, none⟩), ?_, rfl⟩
        simp only [ogMk, Act.put, List.setIfInBounds_toArray, List.set_cons_zero, List.set_cons_succ, Nat.zero_add, Nat.reduceAdd, List.take_succ_cons, List.take_zero, List.drop_succ_cons, List.drop_zero]
        simp [execOp, Act.eval, go_sem, h0]
      · refine OgStep.pure ?_ ?_
        · rfl
        intro u W hS hp
        have h1 : u 1 = .pointer (some ⟨b, 0, none⟩) := hp ⟨1, .data⟩ (by simp) rfl
        refine ⟨.pointer (some ⟨b, 3, none⟩), ?_, rfl⟩
        simp only [ogMk, Act.put, List.setIfInBounds_toArray, List.set_cons_zero, List.set_cons_succ, Nat.zero_add, Nat.reduceAdd, List.take_succ_cons, List.take_zero, List.drop_succ_cons, List.drop_zero]
        simp [execOp, Act.eval, go_sem, h1]
      · refine OgStep.pure ?_ ?_
        · rfl
        intro u W hS hp
        have h2 : u 2 = .pointer (some ⟨b, 3, none⟩) := hp ⟨2, .data⟩ (by simp) rfl
        have k := (S0.out.below hS).cx.key 3 _ rfl
        (try dsimp only at k)
        refine ⟨.slice A2 sw.length c2, ?_, rfl⟩
        simp only [ogMk, Act.put, List.setIfInBounds_toArray, List.set_cons_zero, List.set_cons_succ, Nat.zero_add, Nat.reduceAdd, List.take_succ_cons, List.take_zero, List.drop_succ_cons, List.drop_zero]
        simp [execOp, Act.eval, go_sem, h2, k]
      · refine OgStep.pure ?_ ?_
        · rfl
        intro u W hS hp
        refine ⟨.pointer (some ⟨w.heap.size, 9, none⟩), ?_, rfl⟩
        simp only [ogMk, Act.put, List.setIfInBounds_toArray, List.set_cons_zero, List.set_cons_succ, Nat.zero_add, Nat.reduceAdd, List.take_succ_cons, List.take_zero, List.drop_succ_cons, List.drop_zero]
        simp [execOp, Act.eval, go_sem]
      · refine OgStep.pure ?_ ?_
        · rfl
        intro u W hS hp
        have h4 : u 4 = .pointer (some ⟨w.heap.size, 9, none⟩) := hp ⟨4, .data⟩ (by simp) rfl
        have G := (X1.out.keep hS LG.out)
        have g9 := G.key 9 _ rfl
        have g10 := G.key 10 _ rfl
        (try dsimp only at g9 g10)
        refine ⟨.agg #[.int .u32 eb, .int .i64 en], ?_, rfl⟩
        simp only [ogMk, Act.put, List.setIfInBounds_toArray, List.set_cons_zero, List.set_cons_succ, Nat.zero_add, Nat.reduceAdd, List.take_succ_cons, List.take_zero, List.drop_succ_cons, List.drop_zero]
        simp [execOp, Act.eval, go_sem, h4, g9, g10]
      · refine OgStep.calls ?_ ?_
        · rfl
        intro u W hS hp
        have h3 : u 3 = .slice A2 sw.length c2 := hp ⟨3, .data⟩ (by simp) rfl
        have h5 : u 5 = .agg #[.int .u32 eb, .int .i64 en] := hp ⟨5, .data⟩ (by simp) rfl
        refine ⟨34, #[.slice A2 sw.length c2, .agg #[.int .u32 eb, .int .i64 en]], ?_, calls_tF (HPU W (R0.out.below hS)) rfl⟩
        simp only [ogMk, Act.put, List.setIfInBounds_toArray, List.set_cons_zero, List.set_cons_succ, Nat.zero_add, Nat.reduceAdd, List.take_succ_cons, List.take_zero, List.drop_succ_cons, List.drop_zero]
        simp [execOp, Act.eval, go_sem, h3, h5]
      · refine OgStep.pure ?_ ?_
        · rfl
        intro u W hS hp
        obtain ⟨A7, c7, e7, h7⟩ : tF Rs ys er (u 6) W := hp ⟨6, .data⟩ (by simp) rfl
        refine ⟨.tuple #[.slice A7 ys.length c7, .int .i64 er], ?_, ⟨A7, c7, rfl, h7⟩⟩
        simp only [ogMk, Act.put, List.setIfInBounds_toArray, List.set_cons_zero, List.set_cons_succ, Nat.zero_add, Nat.reduceAdd, List.take_succ_cons, List.take_zero, List.drop_succ_cons, List.drop_zero]
        simp [execOp, Act.eval, go_sem, e7]
      · refine OgStep.pure ?_ ?_
        · rfl
        intro u W hS hp
        obtain ⟨A7, c7, e7, h7⟩ : tF Rs ys er (u 7) W := hp ⟨7, .data⟩ (by simp) rfl
        refine ⟨.slice A7 ys.length c7, ?_, ⟨A7, c7, rfl, h7⟩⟩
        simp only [ogMk, Act.put, List.setIfInBounds_toArray, List.set_cons_zero, List.set_cons_succ, Nat.zero_add, Nat.reduceAdd, List.take_succ_cons, List.take_zero, List.drop_succ_cons, List.drop_zero]
        simp [execOp, Act.eval, go_sem, e7]
      · refine OgStep.pure ?_ ?_
        · rfl
        intro u W hS hp
        obtain ⟨A7, c7, e7, h7⟩ : tF Rs ys er (u 7) W := hp ⟨7, .data⟩ (by simp) rfl
        refine ⟨.int .i64 er, ?_, rfl⟩
        simp only [ogMk, Act.put, List.setIfInBounds_toArray, List.set_cons_zero, List.set_cons_succ, Nat.zero_add, Nat.reduceAdd, List.take_succ_cons, List.take_zero, List.drop_succ_cons, List.drop_zero]
        simp [execOp, Act.eval, go_sem, e7]
      · refine OgStep.pure ?_ ?_
        · rfl
        intro u W hS hp
        obtain ⟨A7, c7, e7, h7⟩ : rF Rs ys (u 8) W := hp ⟨8, .data⟩ (by simp) rfl
        refine ⟨.slice A7 ys.length c7, ?_, ⟨A7, c7, rfl, h7⟩⟩
        simp only [ogMk, Act.put, List.setIfInBounds_toArray, List.set_cons_zero, List.set_cons_succ, Nat.zero_add, Nat.reduceAdd, List.take_succ_cons, List.take_zero, List.drop_succ_cons, List.drop_zero]
        simp [execOp, Act.eval, go_sem, e7]
      · refine OgStep.pure ?_ ?_
        · rfl
        intro u W hS hp
        have h9 : u 9 = .int .i64 er := hp ⟨9, .data⟩ (by simp) rfl
        refine ⟨.int .i64 er, ?_, rfl⟩
        simp only [ogMk, Act.put, List.setIfInBounds_toArray, List.set_cons_zero, List.set_cons_succ, Nat.zero_add, Nat.reduceAdd, List.take_succ_cons, List.take_zero, List.drop_succ_cons, List.drop_zero]
        simp [execOp, Act.eval, go_sem, h9]
    · intro u W hS hF
      have e0 : u 0 = .pointer (some ⟨b, 0, none⟩) := hF 0 (by decide)
      have e1 : u 1 = .pointer (some ⟨b, 0, none⟩) := hF 1 (by decide)
      have e2 : u 2 = .pointer (some ⟨b, 3, none⟩) := hF 2 (by decide)
      have e3 : u 3 = .slice A2 sw.length c2 := hF 3 (by decide)
      have e4 : u 4 = .pointer (some ⟨w.heap.size, 9, none⟩) := hF 4 (by decide)
      have e5 : u 5 = .agg #[.int .u32 eb, .int .i64 en] := hF 5 (by decide)
      have e9 : u 9 = .int .i64 er := hF 9 (by decide)
      have e11 : u 11 = .int .i64 er := hF 11 (by decide)
      obtain ⟨A6, c6, e10, hc6, hR6⟩ : rF Rs ys (u 10) W := hF 10 (by decide)
      simp only [ogMk, Act.put, List.setIfInBounds_toArray, List.set_cons_zero, List.set_cons_succ, Nat.zero_add, Nat.reduceAdd, List.take_succ_cons, List.take_zero, List.drop_succ_cons, List.drop_zero]
      rw [e0, e1, e2, e3, e4, e5, e9, e11, e10]
      clear e0 e1 e2 e3 e4 e5 e9 e11 e10 hF
      have R6 := Lib.hid (R0.out.below hS)
      have S6 := Lib.hid (S0.out.below hS)
      have O6 := Lib.hid (O0.out.trans (Ob.of hS S0.out.lt))
      clear hS
      go_wp2_with fail
      refine (rep_s ⟨n, q, hs, sw, kn, pb, cs⟩ ⟨A1, c1, A2, c2, A3, c3, A4, c4, A5, c5⟩ A6 ys c6 er b W S6.out R6.out hR6 hc6).mono ?_
      rintro e w7 hpp
      have HCP := Lib.hid (cp_ob (pp_cp hpp) O6.out)
      obtain ⟨rfl, -⟩ := hpp
      go_wp2_with fail
      go_ret
      rw [HQ.out]
      exact HCP.out
  have HQH := Lib.hid (by have := HQH.out; rw [if_neg h4] at this; exact this)
  have hb4 : (k == 4) = false := by simpa using h4
  by_cases h5 : k = 5
  · subst h5
    have HQ0 := HQH.out
    rw [if_pos rfl] at HQ0
    have HQ := Lib.hid HQ0
    clear HQ0
    simp only [Sn.sv] at HSW
    have kx11 := X0.out.key 11 _ rfl
    have kx12 := X0.out.key 12 _ rfl
    have kx13 := X0.out.key 13 _ rfl
    have kx14 := X0.out.key 14 _ rfl
    have kx15 := X0.out.key 15 _ rfl
    have kx16 := X0.out.key 16 _ rfl
    have kx17 := X0.out.key 17 _ rfl
    have kx18 := X0.out.key 18 _ rfl
    (try dsimp only at kx11 kx12 kx13 kx14 kx15 kx16 kx17 kx18)
    go_wp2_with fail
    refine (HSW.out _ S0.out R0.out).mono ?_
    rintro e w1 hcp
    have HCP := Lib.hid (cp_ob hcp O0.out)
    obtain ⟨rfl, -⟩ := hcp
    go_wp2_with fail
    go_ret
    rw [HQ.out]
    exact HCP.out
  have HQH := Lib.hid (by have := HQH.out; rw [if_neg h5] at this; exact this)
  have hb5 : (k == 5) = false := by simpa using h5
  by_cases h6 : k = 6
  · subst h6
    have HQ0 := HQH.out
    rw [if_pos rfl] at HQ0
    have HPU := fun W (hW : Lie W ⟨n, q, hs, sw, kn, pb, cs⟩ ⟨A1, c1, A2, c2, A3, c3, A4, c4, A5, c5⟩) => tp_c (Cs.approve_any n a A5 cs c5 W hW.c hW.cc HZ.out.c)
    obtain ⟨ys, hys⟩ : ∃ ys, (Cs.stO (fun g => g == 0) 1 n a cs).1 = ys := ⟨_, rfl⟩
    obtain ⟨er, her⟩ : ∃ er, (Cs.stO (fun g => g == 0) 1 n a cs).2 = er := ⟨_, rfl⟩
    rw [hys, her] at HPU HQ0
    (try simp only [Hl.hv] at HPU)
    have HQ := Lib.hid HQ0
    clear HQ0 hys her
    go_wp2_with fail
    refine wp_region_below [fx (.pointer (some ⟨b, 0, none⟩)), fx (.pointer (some ⟨b, 0, none⟩)), fx (.pointer (some ⟨b, 6, none⟩)), fx (.slice A5 cs.length c5), fx (.int .u32 a), fx (.pointer (some ⟨b, 0, none⟩)), fx (.pointer (some ⟨b, 0, none⟩)), fx (.pointer (some ⟨b, 0, none⟩)), fx (.int .i64 n), tF Rc ys er, tF Rc ys er, rF Rc ys, fx (.int .i64 er), rF Rc ys, fx (.int .i64 er)]
      (by kernel_rfl) (by kernel_rfl) (by kernel_rfl) ?_ ?_ ?_
    · simp only [List.mem_cons, List.not_mem_nil, or_false]
      rintro φ (rfl | rfl | rfl | rfl | rfl | rfl | rfl | rfl | rfl | rfl | rfl | rfl | rfl | rfl | rfl)
      all_goals first | exact stable_fx _ | exact stable_rF hld_h _ | exact stable_rF hld_s _ | exact stable_rF hld_k _ | exact stable_rF hld_p _ | exact stable_rF hld_c _ | exact stable_tF hld_h _ _ | exact stable_tF hld_s _ _ | exact stable_tF hld_k _ _ | exact stable_tF hld_p _ _ | exact stable_tF hld_c _ _
    · refine OgSteps.cons ?_ (OgSteps.cons ?_ (OgSteps.cons ?_ (OgSteps.cons ?_ (OgSteps.cons ?_ (OgSteps.cons ?_ (OgSteps.cons ?_ (OgSteps.cons ?_ (OgSteps.cons ?_ (OgSteps.cons ?_ (OgSteps.cons ?_ (OgSteps.cons ?_ (OgSteps.cons ?_ (OgSteps.cons ?_ (OgSteps.cons ?_ (OgSteps.nil)))))))))))))))
      · refine OgStep.pure ?_ ?_
        · rfl
        intro u W hS hp
        refine ⟨.pointer (some ⟨b, 0, none⟩), ?_, rfl⟩
        simp only [ogMk, Act.put, List.setIfInBounds_toArray, List.set_cons_zero, List.set_cons_succ, Nat.zero_add, Nat.reduceAdd, List.take_succ_cons, List.take_zero, List.drop_succ_cons, List.drop_zero]
        simp [execOp, Act.eval, go_sem]
      · refine OgStep.pure ?_ ?_
        · rfl
        intro u W hS hp
        have h0 : u 0 = .pointer (some ⟨b, 0, none⟩) := hp ⟨0, .data⟩ (by simp) rfl
        refine ⟨.pointer (some ⟨b, 0, none⟩), ?_, rfl⟩
        simp only [ogMk, Act.put, List.setIfInBounds_toArray, List.set_cons_zero, List.set_cons_succ, Nat.zero_add, Nat.reduceAdd, List.take_succ_cons, List.take_zero, List.drop_succ_cons, List.drop_zero]
        simp [execOp, Act.eval, go_sem, h0]
      · refine OgStep.pure ?_ ?_
        · rfl
        intro u W hS hp
        have h1 : u 1 = .pointer (some ⟨b, 0, none⟩) := hp ⟨1, .data⟩ (by simp) rfl
        refine ⟨.pointer (some ⟨b, 6, none⟩), ?_, rfl⟩
        simp only [ogMk, Act.put, List.setIfInBounds_toArray, List.set_cons_zero, List.set_cons_succ, Nat.zero_add, Nat.reduceAdd, List.take_succ_cons, List.take_zero, List.drop_succ_cons, List.drop_zero]
        simp [execOp, Act.eval, go_sem, h1]
      · refine OgStep.pure ?_ ?_
        · rfl
        intro u W hS hp
        have h2 : u 2 = .pointer (some ⟨b, 6, none⟩) := hp ⟨2, .data⟩ (by simp) rfl
        have k := (S0.out.below hS).cx.key 6 _ rfl
        (try dsimp only at k)
        refine ⟨.slice A5 cs.length c5, ?_, rfl⟩
        simp only [ogMk, Act.put, List.setIfInBounds_toArray, List.set_cons_zero, List.set_cons_succ, Nat.zero_add, Nat.reduceAdd, List.take_succ_cons, List.take_zero, List.drop_succ_cons, List.drop_zero]
        simp [execOp, Act.eval, go_sem, h2, k]
      · refine OgStep.pure ?_ ?_
        · rfl
        intro u W hS hp
        refine ⟨.int .u32 a, ?_, rfl⟩
        simp only [ogMk, Act.put, List.setIfInBounds_toArray, List.set_cons_zero, List.set_cons_succ, Nat.zero_add, Nat.reduceAdd, List.take_succ_cons, List.take_zero, List.drop_succ_cons, List.drop_zero]
        simp [execOp, Act.eval, go_sem]
      · refine OgStep.pure ?_ ?_
        · rfl
        intro u W hS hp
        refine ⟨.pointer (some ⟨b, 0, none⟩), ?_, rfl⟩
        simp only [ogMk, Act.put, List.setIfInBounds_toArray, List.set_cons_zero, List.set_cons_succ, Nat.zero_add, Nat.reduceAdd, List.take_succ_cons, List.take_zero, List.drop_succ_cons, List.drop_zero]
        simp [execOp, Act.eval, go_sem]
      · refine OgStep.pure ?_ ?_
        · rfl
        intro u W hS hp
        have h5 : u 5 = .pointer (some ⟨b, 0, none⟩) := hp ⟨5, .data⟩ (by simp) rfl
        refine ⟨.pointer (some ⟨b, 0, none⟩), ?_, rfl⟩
        simp only [ogMk, Act.put, List.setIfInBounds_toArray, List.set_cons_zero, List.set_cons_succ, Nat.zero_add, Nat.reduceAdd, List.take_succ_cons, List.take_zero, List.drop_succ_cons, List.drop_zero]
        simp [execOp, Act.eval, go_sem, h5]
      · refine OgStep.pure ?_ ?_
        · rfl
        intro u W hS hp
        have h6 : u 6 = .pointer (some ⟨b, 0, none⟩) := hp ⟨6, .data⟩ (by simp) rfl
        refine ⟨.pointer (some ⟨b, 0, none⟩), ?_, rfl⟩
        simp only [ogMk, Act.put, List.setIfInBounds_toArray, List.set_cons_zero, List.set_cons_succ, Nat.zero_add, Nat.reduceAdd, List.take_succ_cons, List.take_zero, List.drop_succ_cons, List.drop_zero]
        simp [execOp, Act.eval, go_sem, h6]
      · refine OgStep.pure ?_ ?_
        · rfl
        intro u W hS hp
        have h7 : u 7 = .pointer (some ⟨b, 0, none⟩) := hp ⟨7, .data⟩ (by simp) rfl
        have kn0 := (S0.out.below hS).cx.key 0 _ rfl
        (try dsimp only at kn0)
        refine ⟨.int .i64 n, ?_, rfl⟩
        simp only [ogMk, Act.put, List.setIfInBounds_toArray, List.set_cons_zero, List.set_cons_succ, Nat.zero_add, Nat.reduceAdd, List.take_succ_cons, List.take_zero, List.drop_succ_cons, List.drop_zero]
        simp [execOp, Act.eval, go_sem, h7, kn0]
      · refine OgStep.calls ?_ ?_
        · rfl
        intro u W hS hp
        have h3 : u 3 = .slice A5 cs.length c5 := hp ⟨3, .data⟩ (by simp) rfl
        have h4 : u 4 = .int .u32 a := hp ⟨4, .data⟩ (by simp) rfl
        have h8 : u 8 = .int .i64 n := hp ⟨8, .data⟩ (by simp) rfl
        refine ⟨35, #[.slice A5 cs.length c5, .int .u32 a, .int .i64 n], ?_, calls_tF (HPU W (R0.out.below hS)) rfl⟩
        simp only [ogMk, Act.put, List.setIfInBounds_toArray, List.set_cons_zero, List.set_cons_succ, Nat.zero_add, Nat.reduceAdd, List.take_succ_cons, List.take_zero, List.drop_succ_cons, List.drop_zero]
        simp [execOp, Act.eval, go_sem, h3, h4, h8]
      · refine OgStep.pure ?_ ?_
        · rfl
        intro u W hS hp
        obtain ⟨A7, c7, e7, h7⟩ : tF Rc ys er (u 9) W := hp ⟨9, .data⟩ (by simp) rfl
        refine ⟨.tuple #[.slice A7 ys.length c7, .int .i64 er], ?_, ⟨A7, c7, rfl, h7⟩⟩
        simp only [ogMk, Act.put, List.setIfInBounds_toArray, List.set_cons_zero, List.set_cons_succ, Nat.zero_add, Nat.reduceAdd, List.take_succ_cons, List.take_zero, List.drop_succ_cons, List.drop_zero]
        simp [execOp, Act.eval, go_sem, e7]
      · refine OgStep.pure ?_ ?_
        · rfl
        intro u W hS hp
        obtain ⟨A7, c7, e7, h7⟩ : tF Rc ys er (u 10) W := hp ⟨10, .data⟩ (by simp) rfl
        refine ⟨.slice A7 ys.length c7, ?_, ⟨A7, c7, rfl, h7⟩⟩
        simp only [ogMk, Act.put, List.setIfInBounds_toArray, List.set_cons_zero, List.set_cons_succ, Nat.zero_add, Nat.reduceAdd, List.take_succ_cons, List.take_zero, List.drop_succ_cons, List.drop_zero]
        simp [execOp, Act.eval, go_sem, e7]
      · refine OgStep.pure ?_ ?_
        · rfl
        intro u W hS hp
        obtain ⟨A7, c7, e7, h7⟩ : tF Rc ys er (u 10) W := hp ⟨10, .data⟩ (by simp) rfl
        refine ⟨.int .i64 er, ?_, rfl⟩
        simp only [ogMk, Act.put, List.setIfInBounds_toArray, List.set_cons_zero, List.set_cons_succ, Nat.zero_add, Nat.reduceAdd, List.take_succ_cons, List.take_zero, List.drop_succ_cons, List.drop_zero]
        simp [execOp, Act.eval, go_sem, e7]
      · refine OgStep.pure ?_ ?_
        · rfl
        intro u W hS hp
        obtain ⟨A7, c7, e7, h7⟩ : rF Rc ys (u 11) W := hp ⟨11, .data⟩ (by simp) rfl
        refine ⟨.slice A7 ys.length c7, ?_, ⟨A7, c7, rfl, h7⟩⟩
        simp only [ogMk, Act.put, List.setIfInBounds_toArray, List.set_cons_zero, List.set_cons_succ, Nat.zero_add, Nat.reduceAdd, List.take_succ_cons, List.take_zero, List.drop_succ_cons, List.drop_zero]
        simp [execOp, Act.eval, go_sem, e7]
      · refine OgStep.pure ?_ ?_
        · rfl
        intro u W hS hp
        have h12 : u 12 = .int .i64 er := hp ⟨12, .data⟩ (by simp) rfl
        refine ⟨.int .i64 er, ?_, rfl⟩
        simp only [ogMk, Act.put, List.setIfInBounds_toArray, List.set_cons_zero, List.set_cons_succ, Nat.zero_add, Nat.reduceAdd, List.take_succ_cons, List.take_zero, List.drop_succ_cons, List.drop_zero]
        simp [execOp, Act.eval, go_sem, h12]
    · intro u W hS hF
      have e0 : u 0 = .pointer (some ⟨b, 0, none⟩) := hF 0 (by decide)
      have e1 : u 1 = .pointer (some ⟨b, 0, none⟩) := hF 1 (by decide)
      have e2 : u 2 = .pointer (some ⟨b, 6, none⟩) := hF 2 (by decide)
      have e3 : u 3 = .slice A5 cs.length c5 := hF 3 (by decide)
      have e4 : u 4 = .int .u32 a := hF 4 (by decide)
      have e5 : u 5 = .pointer (some ⟨b, 0, none⟩) := hF 5 (by decide)
      have e6 : u 6 = .pointer (some ⟨b, 0, none⟩) := hF 6 (by decide)
      have e7 : u 7 = .pointer (some ⟨b, 0, none⟩) := hF 7 (by decide)
      have e8 : u 8 = .int .i64 n := hF 8 (by decide)
      have e12 : u 12 = .int .i64 er := hF 12 (by decide)
      have e14 : u 14 = .int .i64 er := hF 14 (by decide)
      obtain ⟨A6, c6, e13, hc6, hR6⟩ : rF Rc ys (u 13) W := hF 13 (by decide)
      simp only [ogMk, Act.put, List.setIfInBounds_toArray, List.set_cons_zero, List.set_cons_succ, Nat.zero_add, Nat.reduceAdd, List.take_succ_cons, List.take_zero, List.drop_succ_cons, List.drop_zero]
      rw [e0, e1, e2, e3, e4, e5, e6, e7, e8, e12, e14, e13]
      clear e0 e1 e2 e3 e4 e5 e6 e7 e8 e12 e14 e13 hF
      have R6 := Lib.hid (R0.out.below hS)
      have S6 := Lib.hid (S0.out.below hS)
      have O6 := Lib.hid (O0.out.trans (Ob.of hS S0.out.lt))
      clear hS
      go_wp2_with fail
      refine (rep_c ⟨n, q, hs, sw, kn, pb, cs⟩ ⟨A1, c1, A2, c2, A3, c3, A4, c4, A5, c5⟩ A6 ys c6 er b W S6.out R6.out hR6 hc6).mono ?_
      rintro e w7 hpp
      have HCP := Lib.hid (cp_ob (pp_cp hpp) O6.out)
      obtain ⟨rfl, -⟩ := hpp
      go_wp2_with fail
      go_ret
      rw [HQ.out]
      exact HCP.out
  have HQH := Lib.hid (by have := HQH.out; rw [if_neg h6] at this; exact this)
  have hb6 : (k == 6) = false := by simpa using h6
  by_cases h7 : k = 7
  · subst h7
    have HQ0 := HQH.out
    rw [if_pos rfl] at HQ0
    have HPU := fun W (hW : Lie W ⟨n, q, hs, sw, kn, pb, cs⟩ ⟨A1, c1, A2, c2, A3, c3, A4, c4, A5, c5⟩) => tp_c (Cs.reject_any n a A5 cs c5 W hW.c hW.cc HZ.out.c)
    obtain ⟨ys, hys⟩ : ∃ ys, (Cs.stO (fun g => g == 0) 2 n a cs).1 = ys := ⟨_, rfl⟩
    obtain ⟨er, her⟩ : ∃ er, (Cs.stO (fun g => g == 0) 2 n a cs).2 = er := ⟨_, rfl⟩
    rw [hys, her] at HPU HQ0
    (try simp only [Hl.hv] at HPU)
    have HQ := Lib.hid HQ0
    clear HQ0 hys her
    go_wp2_with fail
    refine wp_region_below [fx (.pointer (some ⟨b, 0, none⟩)), fx (.pointer (some ⟨b, 0, none⟩)), fx (.pointer (some ⟨b, 6, none⟩)), fx (.slice A5 cs.length c5), fx (.int .u32 a), fx (.pointer (some ⟨b, 0, none⟩)), fx (.pointer (some ⟨b, 0, none⟩)), fx (.pointer (some ⟨b, 0, none⟩)), fx (.int .i64 n), tF Rc ys er, tF Rc ys er, rF Rc ys, fx (.int .i64 er), rF Rc ys, fx (.int .i64 er)]
      (by kernel_rfl) (by kernel_rfl) (by kernel_rfl) ?_ ?_ ?_
    · simp only [List.mem_cons, List.not_mem_nil, or_false]
      rintro φ (rfl | rfl | rfl | rfl | rfl | rfl | rfl | rfl | rfl | rfl | rfl | rfl | rfl | rfl | rfl)
      all_goals first | exact stable_fx _ | exact stable_rF hld_h _ | exact stable_rF hld_s _ | exact stable_rF hld_k _ | exact stable_rF hld_p _ | exact stable_rF hld_c _ | exact stable_tF hld_h _ _ | exact stable_tF hld_s _ _ | exact stable_tF hld_k _ _ | exact stable_tF hld_p _ _ | exact stable_tF hld_c _ _
    · refine OgSteps.cons ?_ (OgSteps.cons ?_ (OgSteps.cons ?_ (OgSteps.cons ?_ (OgSteps.cons ?_ (OgSteps.cons ?_ (OgSteps.cons ?_ (OgSteps.cons ?_ (OgSteps.cons ?_ (OgSteps.cons ?_ (OgSteps.cons ?_ (OgSteps.cons ?_ (OgSteps.cons ?_ (OgSteps.cons ?_ (OgSteps.cons ?_ (OgSteps.nil)))))))))))))))
      · refine OgStep.pure ?_ ?_
        · rfl
        intro u W hS hp
        refine ⟨.pointer (some ⟨b, 0, none⟩), ?_, rfl⟩
        simp only [ogMk, Act.put, List.setIfInBounds_toArray, List.set_cons_zero, List.set_cons_succ, Nat.zero_add, Nat.reduceAdd, List.take_succ_cons, List.take_zero, List.drop_succ_cons, List.drop_zero]
        simp [execOp, Act.eval, go_sem]
      · refine OgStep.pure ?_ ?_
        · rfl
        intro u W hS hp
        have h0 : u 0 = .pointer (some ⟨b, 0, none⟩) := hp ⟨0, .data⟩ (by simp) rfl
        refine ⟨.pointer (some ⟨b, 0, none⟩), ?_, rfl⟩
        simp only [ogMk, Act.put, List.setIfInBounds_toArray, List.set_cons_zero, List.set_cons_succ, Nat.zero_add, Nat.reduceAdd, List.take_succ_cons, List.take_zero, List.drop_succ_cons, List.drop_zero]
        simp [execOp, Act.eval, go_sem, h0]
      · refine OgStep.pure ?_ ?_
        · rfl
        intro u W hS hp
        have h1 : u 1 = .pointer (some ⟨b, 0, none⟩) := hp ⟨1, .data⟩ (by simp) rfl
        refine ⟨.pointer (some ⟨b, 6, none⟩), ?_, rfl⟩
        simp only [ogMk, Act.put, List.setIfInBounds_toArray, List.set_cons_zero, List.set_cons_succ, Nat.zero_add, Nat.reduceAdd, List.take_succ_cons, List.take_zero, List.drop_succ_cons, List.drop_zero]
        simp [execOp, Act.eval, go_sem, h1]
      · refine OgStep.pure ?_ ?_
        · rfl
        intro u W hS hp
        have h2 : u 2 = .pointer (some ⟨b, 6, none⟩) := hp ⟨2, .data⟩ (by simp) rfl
        have k := (S0.out.below hS).cx.key 6 _ rfl
        (try dsimp only at k)
        refine ⟨.slice A5 cs.length c5, ?_, rfl⟩
        simp only [ogMk, Act.put, List.setIfInBounds_toArray, List.set_cons_zero, List.set_cons_succ, Nat.zero_add, Nat.reduceAdd, List.take_succ_cons, List.take_zero, List.drop_succ_cons, List.drop_zero]
        simp [execOp, Act.eval, go_sem, h2, k]
      · refine OgStep.pure ?_ ?_
        · rfl
        intro u W hS hp
        refine ⟨.int .u32 a, ?_, rfl⟩
        simp only [ogMk, Act.put, List.setIfInBounds_toArray, List.set_cons_zero, List.set_cons_succ, Nat.zero_add, Nat.reduceAdd, List.take_succ_cons, List.take_zero, List.drop_succ_cons, List.drop_zero]
        simp [execOp, Act.eval, go_sem]
      · refine OgStep.pure ?_ ?_
        · rfl
        intro u W hS hp
        refine ⟨.pointer (some ⟨b, 0, none⟩), ?_, rfl⟩
        simp only [ogMk, Act.put, List.setIfInBounds_toArray, List.set_cons_zero, List.set_cons_succ, Nat.zero_add, Nat.reduceAdd, List.take_succ_cons, List.take_zero, List.drop_succ_cons, List.drop_zero]
        simp [execOp, Act.eval, go_sem]
      · refine OgStep.pure ?_ ?_
        · rfl
        intro u W hS hp
        have h5 : u 5 = .pointer (some ⟨b, 0, none⟩) := hp ⟨5, .data⟩ (by simp) rfl
        refine ⟨.pointer (some ⟨b, 0, none⟩), ?_, rfl⟩
        simp only [ogMk, Act.put, List.setIfInBounds_toArray, List.set_cons_zero, List.set_cons_succ, Nat.zero_add, Nat.reduceAdd, List.take_succ_cons, List.take_zero, List.drop_succ_cons, List.drop_zero]
        simp [execOp, Act.eval, go_sem, h5]
      · refine OgStep.pure ?_ ?_
        · rfl
        intro u W hS hp
        have h6 : u 6 = .pointer (some ⟨b, 0, none⟩) := hp ⟨6, .data⟩ (by simp) rfl
        refine ⟨.pointer (some ⟨b, 0, none⟩), ?_, rfl⟩
        simp only [ogMk, Act.put, List.setIfInBounds_toArray, List.set_cons_zero, List.set_cons_succ, Nat.zero_add, Nat.reduceAdd, List.take_succ_cons, List.take_zero, List.drop_succ_cons, List.drop_zero]
        simp [execOp, Act.eval, go_sem, h6]
      · refine OgStep.pure ?_ ?_
        · rfl
        intro u W hS hp
        have h7 : u 7 = .pointer (some ⟨b, 0, none⟩) := hp ⟨7, .data⟩ (by simp) rfl
        have kn0 := (S0.out.below hS).cx.key 0 _ rfl
        (try dsimp only at kn0)
        refine ⟨.int .i64 n, ?_, rfl⟩
        simp only [ogMk, Act.put, List.setIfInBounds_toArray, List.set_cons_zero, List.set_cons_succ, Nat.zero_add, Nat.reduceAdd, List.take_succ_cons, List.take_zero, List.drop_succ_cons, List.drop_zero]
        simp [execOp, Act.eval, go_sem, h7, kn0]
      · refine OgStep.calls ?_ ?_
        · rfl
        intro u W hS hp
        have h3 : u 3 = .slice A5 cs.length c5 := hp ⟨3, .data⟩ (by simp) rfl
        have h4 : u 4 = .int .u32 a := hp ⟨4, .data⟩ (by simp) rfl
        have h8 : u 8 = .int .i64 n := hp ⟨8, .data⟩ (by simp) rfl
        refine ⟨36, #[.slice A5 cs.length c5, .int .u32 a, .int .i64 n], ?_, calls_tF (HPU W (R0.out.below hS)) rfl⟩
        simp only [ogMk, Act.put, List.setIfInBounds_toArray, List.set_cons_zero, List.set_cons_succ, Nat.zero_add, Nat.reduceAdd, List.take_succ_cons, List.take_zero, List.drop_succ_cons, List.drop_zero]
        simp [execOp, Act.eval, go_sem, h3, h4, h8]
      · refine OgStep.pure ?_ ?_
        · rfl
        intro u W hS hp
        obtain ⟨A7, c7, e7, h7⟩ : tF Rc ys er (u 9) W := hp ⟨9, .data⟩ (by simp) rfl
        refine ⟨.tuple #[.slice A7 ys.length c7, .int .i64 er], ?_, ⟨A7, c7, rfl, h7⟩⟩
        simp only [ogMk, Act.put, List.setIfInBounds_toArray, List.set_cons_zero, List.set_cons_succ, Nat.zero_add, Nat.reduceAdd, List.take_succ_cons, List.take_zero, List.drop_succ_cons, List.drop_zero]
        simp [execOp, Act.eval, go_sem, e7]
      · refine OgStep.pure ?_ ?_
        · rfl
        intro u W hS hp
        obtain ⟨A7, c7, e7, h7⟩ : tF Rc ys er (u 10) W := hp ⟨10, .data⟩ (by simp) rfl
        refine ⟨.slice A7 ys.length c7, ?_, ⟨A7, c7, rfl, h7⟩⟩
        simp only [ogMk, Act.put, List.setIfInBounds_toArray, List.set_cons_zero, List.set_cons_succ, Nat.zero_add, Nat.reduceAdd, List.take_succ_cons, List.take_zero, List.drop_succ_cons, List.drop_zero]
        simp [execOp, Act.eval, go_sem, e7]
      · refine OgStep.pure ?_ ?_
        · rfl
        intro u W hS hp
        obtain ⟨A7, c7, e7, h7⟩ : tF Rc ys er (u 10) W := hp ⟨10, .data⟩ (by simp) rfl
        refine ⟨.int .i64 er, ?_, rfl⟩
        simp only [ogMk, Act.put, List.setIfInBounds_toArray, List.set_cons_zero, List.set_cons_succ, Nat.zero_add, Nat.reduceAdd, List.take_succ_cons, List.take_zero, List.drop_succ_cons, List.drop_zero]
        simp [execOp, Act.eval, go_sem, e7]
      · refine OgStep.pure ?_ ?_
        · rfl
        intro u W hS hp
        obtain ⟨A7, c7, e7, h7⟩ : rF Rc ys (u 11) W := hp ⟨11, .data⟩ (by simp) rfl
        refine ⟨.slice A7 ys.length c7, ?_, ⟨A7, c7, rfl, h7⟩⟩
        simp only [ogMk, Act.put, List.setIfInBounds_toArray, List.set_cons_zero, List.set_cons_succ, Nat.zero_add, Nat.reduceAdd, List.take_succ_cons, List.take_zero, List.drop_succ_cons, List.drop_zero]
        simp [execOp, Act.eval, go_sem, e7]
      · refine OgStep.pure ?_ ?_
        · rfl
        intro u W hS hp
        have h12 : u 12 = .int .i64 er := hp ⟨12, .data⟩ (by simp) rfl
        refine ⟨.int .i64 er, ?_, rfl⟩
        simp only [ogMk, Act.put, List.setIfInBounds_toArray, List.set_cons_zero, List.set_cons_succ, Nat.zero_add, Nat.reduceAdd, List.take_succ_cons, List.take_zero, List.drop_succ_cons, List.drop_zero]
        simp [execOp, Act.eval, go_sem, h12]
    · intro u W hS hF
      have e0 : u 0 = .pointer (some ⟨b, 0, none⟩) := hF 0 (by decide)
      have e1 : u 1 = .pointer (some ⟨b, 0, none⟩) := hF 1 (by decide)
      have e2 : u 2 = .pointer (some ⟨b, 6, none⟩) := hF 2 (by decide)
      have e3 : u 3 = .slice A5 cs.length c5 := hF 3 (by decide)
      have e4 : u 4 = .int .u32 a := hF 4 (by decide)
      have e5 : u 5 = .pointer (some ⟨b, 0, none⟩) := hF 5 (by decide)
      have e6 : u 6 = .pointer (some ⟨b, 0, none⟩) := hF 6 (by decide)
      have e7 : u 7 = .pointer (some ⟨b, 0, none⟩) := hF 7 (by decide)
      have e8 : u 8 = .int .i64 n := hF 8 (by decide)
      have e12 : u 12 = .int .i64 er := hF 12 (by decide)
      have e14 : u 14 = .int .i64 er := hF 14 (by decide)
      obtain ⟨A6, c6, e13, hc6, hR6⟩ : rF Rc ys (u 13) W := hF 13 (by decide)
      simp only [ogMk, Act.put, List.setIfInBounds_toArray, List.set_cons_zero, List.set_cons_succ, Nat.zero_add, Nat.reduceAdd, List.take_succ_cons, List.take_zero, List.drop_succ_cons, List.drop_zero]
      rw [e0, e1, e2, e3, e4, e5, e6, e7, e8, e12, e14, e13]
      clear e0 e1 e2 e3 e4 e5 e6 e7 e8 e12 e14 e13 hF
      have R6 := Lib.hid (R0.out.below hS)
      have S6 := Lib.hid (S0.out.below hS)
      have O6 := Lib.hid (O0.out.trans (Ob.of hS S0.out.lt))
      clear hS
      go_wp2_with fail
      refine (rep_c ⟨n, q, hs, sw, kn, pb, cs⟩ ⟨A1, c1, A2, c2, A3, c3, A4, c4, A5, c5⟩ A6 ys c6 er b W S6.out R6.out hR6 hc6).mono ?_
      rintro e w7 hpp
      have HCP := Lib.hid (cp_ob (pp_cp hpp) O6.out)
      obtain ⟨rfl, -⟩ := hpp
      go_wp2_with fail
      go_ret
      rw [HQ.out]
      exact HCP.out
  have HQH := Lib.hid (by have := HQH.out; rw [if_neg h7] at this; exact this)
  have hb7 : (k == 7) = false := by simpa using h7
  have HQ := Lib.hid HQH.out
  go_wp2_with fail
  go_ret
  rw [HQ.out]
  exact ⟨rfl, (fun h => by cases h), O0.out⟩
end Go.Proofs.YtilneflfeegnfaaGreat
namespace Go.Proofs.YtilneflfeegnfaaGreat
open Go.RowKit
def DoPost (w : World) (D : Stt × List Pb.Pk × Int) (e : Ending) (w' : World) : Prop := ∃ r A cap, e = .returned (.tuple #[stv D.1 r, .slice A D.2.1.length cap, .int .i64 D.2.2]) ∧ Lie w' D.1 r ∧ Rw ePk w' A D.2.1 ∧ D.2.1.length ≤ cap ∧ Below w.heap.size w w'
theorem mk_Pk : Mk ePk := fun x => ⟨1, _, rfl, u32_no _⟩
theorem sizeEv : (Tryz.prog.info? 51).map (·.size) = some 19 := by kernel_rfl
theorem at_loadEv {ops : Array Oper} {rest : List Oper} {o : Oper} {a : Act} {w : World} {Q : Exit → Act → World → Prop} (x : Operand) (b : Nat) (e : Evt) (H : Cx w b (evl e)) (hgd : o.guard = none) (ho : o.op = .load 51 x) (hx : a.eval x = .pointer (some ⟨b, 0, none⟩))
    (h : wpList Tryz.prog ops Q rest (a.put o.dst (evv e)) w) : wpList Tryz.prog ops Q (o :: rest) a w :=
  at_get 51 _ x b [] (evl e) [] (by simpa using H) Tryz.underlying51 rfl (by rw [sizeEv]; rfl) hgd ho hx h
set_option maxRecDepth 100000 in
set_option maxHeartbeats 8000000 in
theorem do_any (c : Cf) (x : Stt) (r : Rws) (e : Evt) (w : World) (h : Lie w x r) (hi : In x) (hk : Ck c) (he : e.Ok) : Calls Tryz.prog 14 #[cfv c, stv x r, evv e] w (DoPost w (doL c x e)) := by
  have HCP := Lib.hid fun W (hW : Lie W x r) => copied_any x r W hW hi.sz
  have HTK := Lib.hid fun r b W H h => tickS_any c x r b W H h hi hk
  have HCH := Lib.hid fun r b W H h => changeS_any x r e b W H h hi he
  have HQ0 := Lib.hid (show e.k = 0 → doL c x e = ((tickL c x).1, (tickL c x).2, 0) from fun h0 => by unfold doL; rw [if_pos h0])
  have HQ1 := Lib.hid (doL_ch c x e)
  have HQ2 := Lib.hid (chL_two x e)
  obtain ⟨D, hD⟩ : ∃ D, doL c x e = D := ⟨_, rfl⟩
  obtain ⟨TL, hTL⟩ : ∃ TL, tickL c x = TL := ⟨_, rfl⟩
  obtain ⟨CL, hCL⟩ : ∃ CL, chL x e = CL := ⟨_, rfl⟩
  rw [hD] at HQ0 HQ1 ⊢
  rw [hTL] at HQ0 HTK
  rw [hCL] at HQ1 HQ2 HCH
  clear hD hTL hCL hi hk he
  have Hh := Lib.hid h
  obtain ⟨n, q, hs, sw, kn, pb, cs⟩ := x
  obtain ⟨A1, c1, A2, c2, A3, c3, A4, c4, A5, c5⟩ := r
  obtain ⟨k, ⟨a, o, p0, p1, p2, p3, p4, p5⟩, eb, en, ⟨sf, s0, s1, s2, s3, s4, s5, st⟩⟩ := e
  obtain ⟨xa, xb, xc, xd, xe, xf, xg, xh, xi⟩ := c
  have B0 := Lib.hid (show Below w.heap.size w ((((w.alloc (.cells #[.int .i64 xa, .int .i64 xb, .int .i64 xc, .int .i64 xd, .int .i64 xe, .int .i64 xf, .int .i64 xg, .int .i64 xh, .int .i64 xi] 27)).alloc (.cells #[.int .i64 n, .int .i64 q, .slice A1 hs.length c1, .slice A2 sw.length c2, .slice A3 kn.length c3, .slice A4 pb.length c4, .slice A5 cs.length c5] 35)).alloc (.cells #[.int .i64 k, .int .u32 a, .string o, .int .u8 p0, .int .u8 p1, .int .u8 p2, .int .u8 p3, .int .u8 p4, .int .u8 p5, .int .u32 eb, .int .i64 en, .int .i64 sf, .int .u8 s0, .int .u8 s1, .int .u8 s2, .int .u8 s3, .int .u8 s4, .int .u8 s5, .int .i64 st] 51)).alloc (.cells #[.int .i64 0, .int .i64 0, .slice none 0 0, .slice none 0 0, .slice none 0 0, .slice none 0 0, .slice none 0 0] 35)) from ((((Below.refl _ w).alloc (Nat.le_refl _) _).alloc (by simp) _).alloc (by simp <;> omega) _).alloc (by simp <;> omega) _)
  have C0 := Lib.hid (show Cm ((((w.alloc (.cells #[.int .i64 xa, .int .i64 xb, .int .i64 xc, .int .i64 xd, .int .i64 xe, .int .i64 xf, .int .i64 xg, .int .i64 xh, .int .i64 xi] 27)).alloc (.cells #[.int .i64 n, .int .i64 q, .slice A1 hs.length c1, .slice A2 sw.length c2, .slice A3 kn.length c3, .slice A4 pb.length c4, .slice A5 cs.length c5] 35)).alloc (.cells #[.int .i64 k, .int .u32 a, .string o, .int .u8 p0, .int .u8 p1, .int .u8 p2, .int .u8 p3, .int .u8 p4, .int .u8 p5, .int .u32 eb, .int .i64 en, .int .i64 sf, .int .u8 s0, .int .u8 s1, .int .u8 s2, .int .u8 s3, .int .u8 s4, .int .u8 s5, .int .i64 st] 51)).alloc (.cells #[.int .i64 0, .int .i64 0, .slice none 0 0, .slice none 0 0, .slice none 0 0, .slice none 0 0, .slice none 0 0] 35)) w.heap.size ⟨xa, xb, xc, xd, xe, xf, xg, xh, xi⟩ from (cm_box w ⟨xa, xb, xc, xd, xe, xf, xg, xh, xi⟩).below ((((Below.refl _ (w.alloc (Cfx ⟨xa, xb, xc, xd, xe, xf, xg, xh, xi⟩))).alloc (Nat.le_refl _) _).alloc (by simp) _).alloc (by simp <;> omega) _))
  have S0 := Lib.hid (show Sb ((((w.alloc (.cells #[.int .i64 xa, .int .i64 xb, .int .i64 xc, .int .i64 xd, .int .i64 xe, .int .i64 xf, .int .i64 xg, .int .i64 xh, .int .i64 xi] 27)).alloc (.cells #[.int .i64 n, .int .i64 q, .slice A1 hs.length c1, .slice A2 sw.length c2, .slice A3 kn.length c3, .slice A4 pb.length c4, .slice A5 cs.length c5] 35)).alloc (.cells #[.int .i64 k, .int .u32 a, .string o, .int .u8 p0, .int .u8 p1, .int .u8 p2, .int .u8 p3, .int .u8 p4, .int .u8 p5, .int .u32 eb, .int .i64 en, .int .i64 sf, .int .u8 s0, .int .u8 s1, .int .u8 s2, .int .u8 s3, .int .u8 s4, .int .u8 s5, .int .i64 st] 51)).alloc (.cells #[.int .i64 0, .int .i64 0, .slice none 0 0, .slice none 0 0, .slice none 0 0, .slice none 0 0, .slice none 0 0] 35)) (w.alloc (.cells #[.int .i64 xa, .int .i64 xb, .int .i64 xc, .int .i64 xd, .int .i64 xe, .int .i64 xf, .int .i64 xg, .int .i64 xh, .int .i64 xi] 27)).heap.size [.int .i64 n, .int .i64 q, .slice A1 hs.length c1, .slice A2 sw.length c2, .slice A3 kn.length c3, .slice A4 pb.length c4, .slice A5 cs.length c5] from (sb_box (w.alloc (.cells #[.int .i64 xa, .int .i64 xb, .int .i64 xc, .int .i64 xd, .int .i64 xe, .int .i64 xf, .int .i64 xg, .int .i64 xh, .int .i64 xi] 27)) ⟨n, q, hs, sw, kn, pb, cs⟩ ⟨A1, c1, A2, c2, A3, c3, A4, c4, A5, c5⟩).below (((Below.refl _ _).alloc (Nat.le_refl _) _).alloc (by simp) _))
  have X0 := Lib.hid (show Cx ((((w.alloc (.cells #[.int .i64 xa, .int .i64 xb, .int .i64 xc, .int .i64 xd, .int .i64 xe, .int .i64 xf, .int .i64 xg, .int .i64 xh, .int .i64 xi] 27)).alloc (.cells #[.int .i64 n, .int .i64 q, .slice A1 hs.length c1, .slice A2 sw.length c2, .slice A3 kn.length c3, .slice A4 pb.length c4, .slice A5 cs.length c5] 35)).alloc (.cells #[.int .i64 k, .int .u32 a, .string o, .int .u8 p0, .int .u8 p1, .int .u8 p2, .int .u8 p3, .int .u8 p4, .int .u8 p5, .int .u32 eb, .int .i64 en, .int .i64 sf, .int .u8 s0, .int .u8 s1, .int .u8 s2, .int .u8 s3, .int .u8 s4, .int .u8 s5, .int .i64 st] 51)).alloc (.cells #[.int .i64 0, .int .i64 0, .slice none 0 0, .slice none 0 0, .slice none 0 0, .slice none 0 0, .slice none 0 0] 35)) ((w.alloc (.cells #[.int .i64 xa, .int .i64 xb, .int .i64 xc, .int .i64 xd, .int .i64 xe, .int .i64 xf, .int .i64 xg, .int .i64 xh, .int .i64 xi] 27)).alloc (.cells #[.int .i64 n, .int .i64 q, .slice A1 hs.length c1, .slice A2 sw.length c2, .slice A3 kn.length c3, .slice A4 pb.length c4, .slice A5 cs.length c5] 35)).heap.size (evl ⟨k, ⟨a, o, p0, p1, p2, p3, p4, p5⟩, eb, en, ⟨sf, s0, s1, s2, s3, s4, s5, st⟩⟩) from Cx.below (show Cx (((w.alloc (.cells #[.int .i64 xa, .int .i64 xb, .int .i64 xc, .int .i64 xd, .int .i64 xe, .int .i64 xf, .int .i64 xg, .int .i64 xh, .int .i64 xi] 27)).alloc (.cells #[.int .i64 n, .int .i64 q, .slice A1 hs.length c1, .slice A2 sw.length c2, .slice A3 kn.length c3, .slice A4 pb.length c4, .slice A5 cs.length c5] 35)).alloc (.cells #[.int .i64 k, .int .u32 a, .string o, .int .u8 p0, .int .u8 p1, .int .u8 p2, .int .u8 p3, .int .u8 p4, .int .u8 p5, .int .u32 eb, .int .i64 en, .int .i64 sf, .int .u8 s0, .int .u8 s1, .int .u8 s2, .int .u8 s3, .int .u8 s4, .int .u8 s5, .int .i64 st] 51)) ((w.alloc (.cells #[.int .i64 xa, .int .i64 xb, .int .i64 xc, .int .i64 xd, .int .i64 xe, .int .i64 xf, .int .i64 xg, .int .i64 xh, .int .i64 xi] 27)).alloc (.cells #[.int .i64 n, .int .i64 q, .slice A1 hs.length c1, .slice A2 sw.length c2, .slice A3 kn.length c3, .slice A4 pb.length c4, .slice A5 cs.length c5] 35)).heap.size (evl ⟨k, ⟨a, o, p0, p1, p2, p3, p4, p5⟩, eb, en, ⟨sf, s0, s1, s2, s3, s4, s5, st⟩⟩) from cx_box _ _ _ 51 rfl) ((Below.refl _ _).alloc (Nat.le_refl _) _))
  have Z0 := Lib.hid (show Sb ((((w.alloc (.cells #[.int .i64 xa, .int .i64 xb, .int .i64 xc, .int .i64 xd, .int .i64 xe, .int .i64 xf, .int .i64 xg, .int .i64 xh, .int .i64 xi] 27)).alloc (.cells #[.int .i64 n, .int .i64 q, .slice A1 hs.length c1, .slice A2 sw.length c2, .slice A3 kn.length c3, .slice A4 pb.length c4, .slice A5 cs.length c5] 35)).alloc (.cells #[.int .i64 k, .int .u32 a, .string o, .int .u8 p0, .int .u8 p1, .int .u8 p2, .int .u8 p3, .int .u8 p4, .int .u8 p5, .int .u32 eb, .int .i64 en, .int .i64 sf, .int .u8 s0, .int .u8 s1, .int .u8 s2, .int .u8 s3, .int .u8 s4, .int .u8 s5, .int .i64 st] 51)).alloc (.cells #[.int .i64 0, .int .i64 0, .slice none 0 0, .slice none 0 0, .slice none 0 0, .slice none 0 0, .slice none 0 0] 35)) (((w.alloc (.cells #[.int .i64 xa, .int .i64 xb, .int .i64 xc, .int .i64 xd, .int .i64 xe, .int .i64 xf, .int .i64 xg, .int .i64 xh, .int .i64 xi] 27)).alloc (.cells #[.int .i64 n, .int .i64 q, .slice A1 hs.length c1, .slice A2 sw.length c2, .slice A3 kn.length c3, .slice A4 pb.length c4, .slice A5 cs.length c5] 35)).alloc (.cells #[.int .i64 k, .int .u32 a, .string o, .int .u8 p0, .int .u8 p1, .int .u8 p2, .int .u8 p3, .int .u8 p4, .int .u8 p5, .int .u32 eb, .int .i64 en, .int .i64 sf, .int .u8 s0, .int .u8 s1, .int .u8 s2, .int .u8 s3, .int .u8 s4, .int .u8 s5, .int .i64 st] 51)).heap.size (stl zst zrw) from sb_box _ zst zrw)
  have R0 := Lib.hid (Hh.out.below B0.out)
  have q1 : (w.alloc (.cells #[.int .i64 xa, .int .i64 xb, .int .i64 xc, .int .i64 xd, .int .i64 xe, .int .i64 xf, .int .i64 xg, .int .i64 xh, .int .i64 xi] 27)).heap.size = w.heap.size + 1 := by simp
  have q2 : ((w.alloc (.cells #[.int .i64 xa, .int .i64 xb, .int .i64 xc, .int .i64 xd, .int .i64 xe, .int .i64 xf, .int .i64 xg, .int .i64 xh, .int .i64 xi] 27)).alloc (.cells #[.int .i64 n, .int .i64 q, .slice A1 hs.length c1, .slice A2 sw.length c2, .slice A3 kn.length c3, .slice A4 pb.length c4, .slice A5 cs.length c5] 35)).heap.size = w.heap.size + 1 + 1 := by simp
  have q3 : (((w.alloc (.cells #[.int .i64 xa, .int .i64 xb, .int .i64 xc, .int .i64 xd, .int .i64 xe, .int .i64 xf, .int .i64 xg, .int .i64 xh, .int .i64 xi] 27)).alloc (.cells #[.int .i64 n, .int .i64 q, .slice A1 hs.length c1, .slice A2 sw.length c2, .slice A3 kn.length c3, .slice A4 pb.length c4, .slice A5 cs.length c5] 35)).alloc (.cells #[.int .i64 k, .int .u32 a, .string o, .int .u8 p0, .int .u8 p1, .int .u8 p2, .int .u8 p3, .int .u8 p4, .int .u8 p5, .int .u32 eb, .int .i64 en, .int .i64 sf, .int .u8 s0, .int .u8 s1, .int .u8 s2, .int .u8 s3, .int .u8 s4, .int .u8 s5, .int .i64 st] 51)).heap.size = w.heap.size + 1 + 1 + 1 := by simp
  have q4 : ((((w.alloc (.cells #[.int .i64 xa, .int .i64 xb, .int .i64 xc, .int .i64 xd, .int .i64 xe, .int .i64 xf, .int .i64 xg, .int .i64 xh, .int .i64 xi] 27)).alloc (.cells #[.int .i64 n, .int .i64 q, .slice A1 hs.length c1, .slice A2 sw.length c2, .slice A3 kn.length c3, .slice A4 pb.length c4, .slice A5 cs.length c5] 35)).alloc (.cells #[.int .i64 k, .int .u32 a, .string o, .int .u8 p0, .int .u8 p1, .int .u8 p2, .int .u8 p3, .int .u8 p4, .int .u8 p5, .int .u32 eb, .int .i64 en, .int .i64 sf, .int .u8 s0, .int .u8 s1, .int .u8 s2, .int .u8 s3, .int .u8 s4, .int .u8 s5, .int .i64 st] 51)).alloc (.cells #[.int .i64 0, .int .i64 0, .slice none 0 0, .slice none 0 0, .slice none 0 0, .slice none 0 0, .slice none 0 0] 35)).heap.size = w.heap.size + 1 + 1 + 1 + 1 := by simp
  rw [q1] at S0
  rw [q2] at X0
  rw [q3] at Z0
  have HS4 := Lib.hid q4
  dsimp only at HQ0 HQ1
  simp only [cfv] at HTK ⊢
  simp only [stv] at HCP ⊢
  simp only [evv, evl] at HCH ⊢
  clear h q1 q2 q3 q4
  go_enter Tryz.func14, Tryz.ntmps14
  go_wp2_with (refine at_loadSt _ (w.heap.size + 1) _ S0.out.cx rfl rfl rfl rfl ?_)
  change Calls _ _ _ ((((w.alloc (.cells #[.int .i64 xa, .int .i64 xb, .int .i64 xc, .int .i64 xd, .int .i64 xe, .int .i64 xf, .int .i64 xg, .int .i64 xh, .int .i64 xi] 27)).alloc (.cells #[.int .i64 n, .int .i64 q, .slice A1 hs.length c1, .slice A2 sw.length c2, .slice A3 kn.length c3, .slice A4 pb.length c4, .slice A5 cs.length c5] 35)).alloc (.cells #[.int .i64 k, .int .u32 a, .string o, .int .u8 p0, .int .u8 p1, .int .u8 p2, .int .u8 p3, .int .u8 p4, .int .u8 p5, .int .u32 eb, .int .i64 en, .int .i64 sf, .int .u8 s0, .int .u8 s1, .int .u8 s2, .int .u8 s3, .int .u8 s4, .int .u8 s5, .int .i64 st] 51)).alloc (.cells #[.int .i64 0, .int .i64 0, .slice none 0 0, .slice none 0 0, .slice none 0 0, .slice none 0 0, .slice none 0 0] 35)) _
  generalize (((w.alloc (.cells #[.int .i64 xa, .int .i64 xb, .int .i64 xc, .int .i64 xd, .int .i64 xe, .int .i64 xf, .int .i64 xg, .int .i64 xh, .int .i64 xi] 27)).alloc (.cells #[.int .i64 n, .int .i64 q, .slice A1 hs.length c1, .slice A2 sw.length c2, .slice A3 kn.length c3, .slice A4 pb.length c4, .slice A5 cs.length c5] 35)).alloc (.cells #[.int .i64 k, .int .u32 a, .string o, .int .u8 p0, .int .u8 p1, .int .u8 p2, .int .u8 p3, .int .u8 p4, .int .u8 p5, .int .u32 eb, .int .i64 en, .int .i64 sf, .int .u8 s0, .int .u8 s1, .int .u8 s2, .int .u8 s3, .int .u8 s4, .int .u8 s5, .int .i64 st] 51)).alloc (.cells #[.int .i64 0, .int .i64 0, .slice none 0 0, .slice none 0 0, .slice none 0 0, .slice none 0 0, .slice none 0 0] 35) = W0 at *
  refine (HCP.out _ R0.out).mono ?_
  rintro e w1 ⟨⟨D1, e1, D2, e2, D3, e3, D4, e4, D5, e5⟩, rfl, hR, hb⟩
  have BX := Lib.hid (show Below w1.heap.size w1 (w1.alloc (.cells #[.int .i64 n, .int .i64 q, .slice D1 hs.length e1, .slice D2 sw.length e2, .slice D3 kn.length e3, .slice D4 pb.length e4, .slice D5 cs.length e5] 35)) from (Below.refl _ _).alloc (Nat.le_refl _) _)
  have SN := Lib.hid (show Sb (w1.alloc (.cells #[.int .i64 n, .int .i64 q, .slice D1 hs.length e1, .slice D2 sw.length e2, .slice D3 kn.length e3, .slice D4 pb.length e4, .slice D5 cs.length e5] 35)) w1.heap.size (stl ⟨n, q, hs, sw, kn, pb, cs⟩ ⟨D1, e1, D2, e2, D3, e3, D4, e4, D5, e5⟩) from sb_box w1 ⟨n, q, hs, sw, kn, pb, cs⟩ ⟨D1, e1, D2, e2, D3, e3, D4, e4, D5, e5⟩)
  have RN := Lib.hid (hR.below BX.out)
  have bb := hb.trans (BX.out.mono hb.size)
  have B1 := Lib.hid (bthen B0.out bb B0.out.size)
  have C1 := Lib.hid (C0.out.below bb)
  have S1 := Lib.hid (S0.out.below bb)
  have X1 := Lib.hid (Cx.below X0.out bb)
  have Z1 := Lib.hid (Z0.out.below bb)
  have R1 := Lib.hid (R0.out.below bb)
  have HW1 := Lib.hid (show w.heap.size + 1 + 1 + 1 + 1 ≤ w1.heap.size from by have := hb.size; rw [HS4.out] at this; exact this)
  clear hb hR bb BX B0 C0 S0 X0 Z0 R0 HS4
  simp only [stl] at SN
  simp only [evl] at X1
  simp only [stv]
  have x0 := X1.out.key 0 _ rfl
  (try dsimp only at x0)
  go_upto_region 2 with fail
  change (Code.region _ _ _).wp _ _ _ (w1.alloc (.cells #[.int .i64 n, .int .i64 q, .slice D1 hs.length e1, .slice D2 sw.length e2, .slice D3 kn.length e3, .slice D4 pb.length e4, .slice D5 cs.length e5] 35))
  generalize w1.alloc (.cells #[.int .i64 n, .int .i64 q, .slice D1 hs.length e1, .slice D2 sw.length e2, .slice D3 kn.length e3, .slice D4 pb.length e4, .slice D5 cs.length e5] 35) = W1 at *
  have HN := Lib.hid (show w.heap.size + 1 + 1 + 1 + 1 ≤ w1.heap.size from HW1.out)
  by_cases hk : k = 0
  · subst hk
    have k0 := C1.out.c0
    have k1 := C1.out.c1
    have k2 := C1.out.c2
    have k3 := C1.out.c3
    have k4 := C1.out.c4
    have k5 := C1.out.c5
    have k6 := C1.out.c6
    have k7 := C1.out.c7
    have k8 := C1.out.c8
    dsimp only at k0 k1 k2 k3 k4 k5 k6 k7 k8
    go_wp2_with fail
    refine (HTK.out _ _ _ SN.out RN.out).mono ?_
    rintro e w3 ⟨⟨A, cap, rfl, hcap, hrow⟩, ⟨r3, hS, hR⟩, hO⟩
    obtain ⟨y, pks⟩ := TL
    dsimp only at hcap hrow hS hR HQ0
    have S3 := Lib.hid hS
    have R3 := Lib.hid hR
    have Z3 := Lib.hid (Z1.out.ob hO (by have := HN.out; omega))
    have B3 := Lib.hid (B1.out.trans (hO.under (show w.heap.size ≤ w1.heap.size by have := HN.out; omega)))
    have RW := Lib.hid hrow
    clear hS hR hO hrow k0 k1 k2 k3 k4 k5 k6 k7 k8 x0
    go_wp2_with (first | (refine at_loadSt _ w1.heap.size _ S3.out.cx rfl rfl rfl rfl ?_) | (refine at_wholeSt _ _ (w.heap.size + 1 + 1 + 1) _ (stl y r3) Z3.out rfl (stl_ns _ _) (stl_one _ _) rfl rfl rfl rfl ?_))
    intro w5 Z5 hb5 hk5
    have B5 := Lib.hid (B3.out.trans (hb5.out _ (by omega)))
    have R5 := Lib.hid (R3.out.apart Z3.out.bs hk5.out)
    have RW5 := Lib.hid (rw_apart mk_Pk RW.out Z3.out.bs hk5.out)
    clear hb5 hk5
    go_wp2_with fail
    refine bodyPost_ret (results_cell3 rfl _ _ _ _ _ _ rfl rfl rfl (loadvSt Z5.out.cx rfl)) rfl ?_
    rw [HQ0.out (by trivial)]
    exact ⟨r3, A, cap, rfl, R5.out, RW5.out, hcap, B5.out⟩
  · have hkb : (k == 0) = false := by simpa using hk
    have HQH := Lib.hid (HQ1.out hk)
    go_wp2_with (refine at_loadEv _ (w.heap.size + 1 + 1) ⟨k, ⟨a, o, p0, p1, p2, p3, p4, p5⟩, eb, en, ⟨sf, s0, s1, s2, s3, s4, s5, st⟩⟩ X1.out rfl rfl rfl ?_)
    refine (HCH.out _ _ _ SN.out RN.out).mono ?_
    obtain ⟨y, pks, er⟩ := CL
    rintro e w3 ⟨rfl, hst, hO⟩
    dsimp only at hst HQ2
    have Z3 := Lib.hid (Z1.out.ob hO (by have := HN.out; omega))
    have S3 := Lib.hid (S1.out.ob hO (by have := HN.out; omega))
    have B3 := Lib.hid (B1.out.trans (hO.under (show w.heap.size ≤ w1.heap.size by have := HN.out; omega)))
    have R3 := Lib.hid (R1.out.ob SN.out.bs hO)
    obtain rfl := HQ2.out.1
    have HST := Lib.hid hst
    clear hst hO x0
    by_cases h0 : er = 0
    · subst h0
      obtain ⟨r4, hS, hR⟩ := HST.out rfl
      have S4 := Lib.hid hS
      have R4 := Lib.hid hR
      clear hS hR
      go_wp2_with (first | (refine at_loadSt _ w1.heap.size _ S4.out.cx rfl rfl rfl rfl ?_) | (refine at_wholeSt _ _ (w.heap.size + 1 + 1 + 1) _ (stl y r4) Z3.out rfl (stl_ns _ _) (stl_one _ _) rfl rfl rfl rfl ?_))
      intro w5 Z5 hb5 hk5
      have B5 := Lib.hid (B3.out.trans (hb5.out _ (by omega)))
      have R5 := Lib.hid (R4.out.apart Z3.out.bs hk5.out)
      clear hb5 hk5
      go_wp2_with fail
      refine bodyPost_ret (results_cell3 rfl _ _ _ _ _ _ rfl rfl rfl (loadvSt Z5.out.cx rfl)) rfl ?_
      rw [HQH.out]
      exact ⟨r4, none, 0, rfl, R5.out, Rw.nil _ _, Nat.le_refl _, B5.out⟩
    · have hy := HQ2.out.2 h0
      subst hy
      go_wp2_with (refine at_loadSt _ (w.heap.size + 1) _ S3.out.cx rfl rfl rfl rfl ?_)
      refine (HCP.out _ R3.out).mono ?_
      rintro e w4 ⟨r4, rfl, hR, hb⟩
      have B4 := Lib.hid (bthen B3.out hb B3.out.size)
      have Z4 := Lib.hid (Z3.out.below hb)
      have R4 := Lib.hid hR
      clear hR hb
      go_wp2_with (refine at_wholeSt _ _ (w.heap.size + 1 + 1 + 1) _ (stl ⟨n, q, hs, sw, kn, pb, cs⟩ r4) Z4.out rfl (stl_ns _ _) (stl_one _ _) rfl rfl rfl rfl ?_)
      intro w5 Z5 hb5 hk5
      have B5 := Lib.hid (B4.out.trans (hb5.out _ (by omega)))
      have R5 := Lib.hid (R4.out.apart Z4.out.bs hk5.out)
      clear hb5 hk5
      go_wp2_with fail
      refine bodyPost_ret (results_cell3 rfl _ _ _ _ _ _ rfl rfl rfl (loadvSt Z5.out.cx rfl)) rfl ?_
      rw [HQH.out]
      exact ⟨r4, none, 0, rfl, R5.out, Rw.nil _ _, Nat.le_refl _, B5.out⟩
end Go.Proofs.YtilneflfeegnfaaGreat
namespace Go.Proofs.YtilneflfeegnfaaGreat
open Go.RowKit
theorem in_upd {x y : Stt} {q : Int} (h : In x) (hy : q = 0 → In y) : In (upd x y q).1 := by
  by_cases hq : q = 0
  · subst hq; exact hy rfl
  · rw [upd_no hq]; exact h
theorem sgL_t (x : Stt) (s : Sn.Sg) : (sgL x s).t = x.now := by
  unfold sgL
  split <;> rfl
theorem in_saw {x : Stt} (h : In x) {a : Int} (h0 : 0 ≤ a) (h1 : a < 4294967296) (s : Sn.Sg) : In (sawL x a s).1 := by
  unfold sawL
  split
  · split
    · exact h
    · exact in_upd h fun he => ((h.an a).know h0 h1 (sgL_t x s) he).stop a
  · exact in_upd h fun he => (h.know h0 h1 (sgL_t x s) he).stop a
theorem in_ch {x : Stt} (h : In x) {e : Evt} (he : e.Ok) : In (chL x e).1 := by
  unfold chL
  split
  · exact in_upd h fun hq => h.put he.h hq
  split
  · exact in_upd h fun hq => (h.take hq).stop e.h.a
  split
  · exact in_upd h fun hq => h.watch he.b0 he.b1 hq
  split
  · exact in_upd h fun hq => h.ignore hq
  split
  · exact in_saw h he.h.1 he.h.2.1 e.s
  split
  · exact in_upd h fun hq => h.step (by omega) (by omega) hq
  split
  · exact in_upd h fun hq => h.step (by omega) (by omega) hq
  · exact h
theorem in_tick {x : Stt} (h : In x) {c : Cf} (hk : Ck c) : In (tickL c x).1 := by
  rw [tickL_eq c h]
  exact (((in_gbs (h.t1 c) c).t3 c).t4 c).t5 c hk.g1
theorem in_do {x : Stt} (h : In x) {c : Cf} (hk : Ck c) {e : Evt} (he : e.Ok) : In (doL c x e).1 := by
  by_cases h0 : e.k = 0
  · unfold doL
    rw [if_pos h0]
    exact in_tick h hk
  · rw [doL_ch c x e h0]
    exact in_ch h he
def evt : Evt := ⟨0, ⟨0, ⟨#[]⟩, 0, 0, 0, 0, 0, 0⟩, 0, 0, ⟨0, 0, 0, 0, 0, 0, 0, 0⟩⟩
theorem evt_ok : evt.Ok := ⟨⟨by decide, by decide, by decide⟩, by decide, by decide⟩
def cfa : Cf := ⟨2, 3, 1, 5, 2, 2, 0, 4, 4⟩
def ev1 : Evt := ⟨1, ⟨5, ⟨#[97, 110, 110]⟩, 0, 0, 0, 0, 0, 0⟩, 0, 0, ⟨0, 0, 0, 0, 0, 0, 0, 0⟩⟩
def ev2 : Evt := ⟨5, ⟨5, ⟨#[]⟩, 0, 0, 0, 0, 0, 0⟩, 0, 0, ⟨1, 0, 0, 0, 0, 0, 0, 0⟩⟩
theorem ev1_ok : ev1.Ok := ⟨⟨by decide, by decide, by decide⟩, by decide, by decide⟩
theorem ev2_ok : ev2.Ok := ⟨⟨by decide, by decide, by decide⟩, by decide, by decide⟩
theorem cfa_ok : Ck cfa := ⟨by decide, by decide, by decide, by decide, by decide, by decide, by decide, by decide, by decide, by decide⟩
def ax1 : Stt := (doL cfa zst ev1).1
def axs : Nat → Stt
  | 0 => (doL cfa ax1 ev2).1
  | k + 1 => (doL cfa (axs k) evt).1
theorem ax1_in : In ax1 := in_do in_zst cfa_ok ev1_ok
theorem axs_in : ∀ k, In (axs k)
  | 0 => in_do ax1_in cfa_ok ev2_ok
  | k + 1 => in_do (axs_in k) cfa_ok evt_ok
set_option maxRecDepth 100000 in
theorem ax_1 : (doL cfa zst ev1).2.2 = 0 := by kernel_rfl
set_option maxRecDepth 100000 in
theorem ax_2 : (doL cfa ax1 ev2).2.2 = 0 := by kernel_rfl
set_option maxRecDepth 100000 in
theorem ax_3 : hoO cfa (axs 0) 5 = 2 := by kernel_rfl
set_option maxRecDepth 100000 in
theorem ax_4 : (axs 4).now = 4 := by kernel_rfl
set_option maxRecDepth 100000 in
theorem ax_5 : (axs 4).cs.length = 1 := by kernel_rfl
set_option maxRecDepth 100000 in
theorem ax_6 : hoO cfa (axs 4) 5 = 3 := by kernel_rfl
end Go.Proofs.YtilneflfeegnfaaGreat
namespace Go.Proofs.YtilneflfeegnfaaGreat
open Go.RowKit
def SPo (w : World) (y : Stt) (q : Int) (e : Ending) (w' : World) : Prop := ∃ r v, e = .returned (.tuple #[stv y r, v, .int .i64 q]) ∧ Lie w' y r ∧ Below w.heap.size w w'
theorem doS (c : Cf) (x : Stt) (r : Rws) (e : Evt) (w : World) (h : Lie w x r) (hi : In x) (hk : Ck c) (he : e.Ok) (y : Stt) (q : Int) (hy : (doL c x e).1 = y) (hq : (doL c x e).2.2 = q) : Calls Tryz.prog 14 #[cfv c, stv x r, evv e] w (SPo w y q) := by
  refine (do_any c x r e w h hi hk he).mono ?_
  rintro z w' ⟨r', A, cap, he, hL, -, -, hb⟩
  rw [hy] at he hL
  rw [hq] at he
  exact ⟨r', _, he, hL, hb⟩
set_option maxRecDepth 100000 in
set_option maxHeartbeats 4000000 in
theorem awake_any (w : World) : Calls Tryz.prog 11 #[] w fun e w' => e = .returned (.bool true) ∧ Below w.heap.size w w' := by
  have DO1 := Lib.hid fun W => doS cfa zst zrw ev1 W (lie_zero W) in_zst cfa_ok ev1_ok ax1 0 rfl ax_1
  have DO2 := Lib.hid fun r W h => doS cfa ax1 r ev2 W h ax1_in cfa_ok ev2_ok (axs 0) 0 rfl ax_2
  have DO3 := Lib.hid fun k r W h => doS cfa (axs k) r evt W h (axs_in k) cfa_ok evt_ok (axs (k + 1)) _ rfl rfl
  have ST := Lib.hid fun k r W h => status_any cfa (axs k) r 5 W h (axs_in k).sz (by decide) (by decide) (by decide)
  have B0 := Lib.hid (show Below w.heap.size w (w.alloc (.cells #[.int .i64 2, .int .i64 3, .int .i64 1, .int .i64 5, .int .i64 2, .int .i64 2, .int .i64 0, .int .i64 4, .int .i64 4] 27)) from (Below.refl _ w).alloc (Nat.le_refl _) _)
  have C0 := Lib.hid (show Cm (w.alloc (.cells #[.int .i64 2, .int .i64 3, .int .i64 1, .int .i64 5, .int .i64 2, .int .i64 2, .int .i64 0, .int .i64 4, .int .i64 4] 27)) w.heap.size cfa from cm_box w cfa)
  go_enter Tryz.func11, Tryz.ntmps11
  go_wp2_with fail
  change Calls _ _ _ (w.alloc (.cells #[.int .i64 2, .int .i64 3, .int .i64 1, .int .i64 5, .int .i64 2, .int .i64 2, .int .i64 0, .int .i64 4, .int .i64 4] 27)) _
  generalize w.alloc (.cells #[.int .i64 2, .int .i64 3, .int .i64 1, .int .i64 5, .int .i64 2, .int .i64 2, .int .i64 0, .int .i64 4, .int .i64 4] 27) = W0 at *
  refine (DO1.out _).mono ?_
  rintro e w1 ⟨r1, v1, rfl, hL, hb⟩
  have BX := Lib.hid (show Below w1.heap.size w1 (w1.alloc (.cells #[.int .i64 0, .int .i64 0, .slice none 0 0, .slice none 0 0, .slice none 0 0, .slice none 0 0, .slice none 0 0] 35)) from (Below.refl _ _).alloc (Nat.le_refl _) _)
  have Z1 := Lib.hid (show Sb (w1.alloc (.cells #[.int .i64 0, .int .i64 0, .slice none 0 0, .slice none 0 0, .slice none 0 0, .slice none 0 0, .slice none 0 0] 35)) w1.heap.size (stl zst zrw) from sb_box w1 zst zrw)
  have bb := hb.trans (BX.out.mono hb.size)
  have B1 := Lib.hid (bthen B0.out bb B0.out.size)
  have C1 := Lib.hid (C0.out.below bb)
  have R1 := Lib.hid (hL.below BX.out)
  have hlt1 : w.heap.size < w1.heap.size := Nat.lt_of_lt_of_le C0.out.lt hb.size
  clear bb hb hL BX B0 C0
  go_wp2_with (refine at_wholeSt _ _ w1.heap.size _ (stl ax1 r1) Z1.out rfl (stl_ns _ _) (stl_one _ _) rfl rfl rfl rfl ?_)
  intro w2 S2 hb2 hk2
  have B2 := Lib.hid (B1.out.trans (hb2.out _ (Nat.le_of_lt hlt1)))
  have C2 := Lib.hid (cm_ob C1.out (Ob.put hb2.out hk2.out) (by omega))
  have R2 := Lib.hid (R1.out.apart Z1.out.bs hk2.out)
  clear hb2 hk2 B1 C1 R1 Z1
  have k0 := C2.out.c0
  have k1 := C2.out.c1
  have k2 := C2.out.c2
  have k3 := C2.out.c3
  have k4 := C2.out.c4
  have k5 := C2.out.c5
  have k6 := C2.out.c6
  have k7 := C2.out.c7
  have k8 := C2.out.c8
  (try dsimp only [cfa] at k0 k1 k2 k3 k4 k5 k6 k7 k8)
  go_wp2_with (refine at_loadSt _ w1.heap.size _ S2.out.cx rfl rfl rfl rfl ?_)
  refine (DO2.out r1 _ R2.out).mono ?_
  rintro e w3 ⟨r3, v3, rfl, hL, hb⟩
  clear k0 k1 k2 k3 k4 k5 k6 k7 k8
  have S3 := Lib.hid (S2.out.below hb)
  have B3 := Lib.hid (bthen B2.out hb B2.out.size)
  have C3 := Lib.hid (C2.out.below hb)
  have R3 := Lib.hid hL
  clear hb hL S2 B2 C2 R2
  go_wp2_with (refine at_wholeSt _ _ w1.heap.size _ (stl (axs 0) r3) S3.out rfl (stl_ns _ _) (stl_one _ _) rfl rfl rfl rfl ?_)
  intro w4 S4 hb4 hk4
  have B4 := Lib.hid (B3.out.trans (hb4.out _ (Nat.le_of_lt hlt1)))
  have C4 := Lib.hid (cm_ob C3.out (Ob.put hb4.out hk4.out) (by omega))
  have R4 := Lib.hid (R3.out.apart S3.out.bs hk4.out)
  clear hb4 hk4 S3 B3 C3 R3
  have k0 := C4.out.c0
  have k1 := C4.out.c1
  have k2 := C4.out.c2
  have k3 := C4.out.c3
  have k4 := C4.out.c4
  have k5 := C4.out.c5
  have k6 := C4.out.c6
  have k7 := C4.out.c7
  have k8 := C4.out.c8
  (try dsimp only [cfa] at k0 k1 k2 k3 k4 k5 k6 k7 k8)
  go_wp2_with (refine at_loadSt _ w1.heap.size _ S4.out.cx rfl rfl rfl rfl ?_)
  refine (ST.out 0 r3 _ R4.out).mono ?_
  rw [ax_3]
  rintro e w5 ⟨rfl, hb⟩
  clear k0 k1 k2 k3 k4 k5 k6 k7 k8
  have HH := Lib.hid (show ∃ r, Sb w5 w1.heap.size (stl (axs 0) r) ∧ Lie w5 (axs 0) r ∧ Cm w5 w.heap.size cfa ∧ Below w.heap.size w w5 from ⟨r3, S4.out.below hb, R4.out.below hb, C4.out.below hb, bthen B4.out hb B4.out.size⟩)
  clear hb S4 R4 C4 B4
  go_wp2_with fail
  go_loopw [8] (fun i wr => ∃ k : Nat, i = .int .i64 k ∧ k ≤ 4 ∧ Hid (∃ r, Sb wr w1.heap.size (stl (axs k) r) ∧ Lie wr (axs k) r ∧ Cm wr w.heap.size cfa ∧ Below w.heap.size w wr)) (fun i _ => 4 - (intOf i).toNat)
  case atStart => exact ⟨0, rfl, by omega, HH⟩
  case round =>
    obtain ⟨k, rfl, hk, HR⟩ := hrel
    clear HH
    obtain ⟨r6, hS, hL, hC, hB⟩ := HR.out
    by_cases hk4 : k < 4
    · have S6 := Lib.hid hS
      have R6 := Lib.hid hL
      have C6 := Lib.hid hC
      have B6 := Lib.hid hB
      clear hS hL hC hB HR
      have k0 := C6.out.c0
      have k1 := C6.out.c1
      have k2 := C6.out.c2
      have k3 := C6.out.c3
      have k4 := C6.out.c4
      have k5 := C6.out.c5
      have k6 := C6.out.c6
      have k7 := C6.out.c7
      have k8 := C6.out.c8
      (try dsimp only [cfa] at k0 k1 k2 k3 k4 k5 k6 k7 k8)
      go_wp2_with (refine at_loadSt _ w1.heap.size _ S6.out.cx rfl rfl rfl rfl ?_)
      refine (DO3.out k r6 _ R6.out).mono ?_
      rintro e w7 ⟨r7, v7, rfl, hL, hb⟩
      clear k0 k1 k2 k3 k4 k5 k6 k7 k8
      have S7 := Lib.hid (S6.out.below hb)
      have B7 := Lib.hid (bthen B6.out hb B6.out.size)
      have C7 := Lib.hid (C6.out.below hb)
      have R7 := Lib.hid hL
      clear hb hL S6 B6 C6 R6
      go_wp2_with (refine at_wholeSt _ _ w1.heap.size _ (stl (axs (k + 1)) r7) S7.out rfl (stl_ns _ _) (stl_one _ _) rfl rfl rfl rfl ?_)
      intro w8 S8 hb8 hk8
      have HN := Lib.hid (show ∃ r, Sb w8 w1.heap.size (stl (axs (k + 1)) r) ∧ Lie w8 (axs (k + 1)) r ∧ Cm w8 w.heap.size cfa ∧ Below w.heap.size w w8 from ⟨r7, S8.out, R7.out.apart S7.out.bs hk8.out, cm_ob C7.out (Ob.put hb8.out hk8.out) (by omega), B7.out.trans (hb8.out _ (Nat.le_of_lt hlt1))⟩)
      clear hb8 hk8 S7 S8 B7 C7 R7
      go_wp2_with fail
      go_roundw
      case rel => exact ⟨k + 1, by go_num, by omega, HN⟩
      case measure => simp [intOf]; omega
    · obtain rfl : k = 4 := by omega
      have ST4 := fun r W h => ST.out 4 r W h
      rw [ax_6] at ST4
      have h4 := ax_4
      have h5 := ax_5
      generalize axs 4 = X at *
      clear HR DO1 DO2 DO3 ST
      obtain ⟨n, q, hs, sw, kn, pb, cs⟩ := X
      obtain ⟨A1, c1, A2, c2, A3, c3, A4, c4, A5, c5⟩ := r6
      dsimp only at h4 h5
      subst h4
      have ST4 := Lib.hid (ST4 _ wr hL)
      have B6 := Lib.hid hB
      have C6 := Lib.hid hC
      have j0 := hS.cx.key 0 _ rfl
      have j1 := hS.cx.key 1 _ rfl
      have j2 := hS.cx.key 2 _ rfl
      have j3 := hS.cx.key 3 _ rfl
      have j4 := hS.cx.key 4 _ rfl
      have j5 := hS.cx.key 5 _ rfl
      have j6 := hS.cx.key 6 _ rfl
      (try dsimp only at j0 j1 j2 j3 j4 j5 j6)
      simp only [stv] at ST4
      rw [h5] at j6 ST4
      clear hS hL hB hC h5 hk4 hk
      have k0 := C6.out.c0
      have k1 := C6.out.c1
      have k2 := C6.out.c2
      have k3 := C6.out.c3
      have k4 := C6.out.c4
      have k5 := C6.out.c5
      have k6 := C6.out.c6
      have k7 := C6.out.c7
      have k8 := C6.out.c8
      (try dsimp only [cfa] at k0 k1 k2 k3 k4 k5 k6 k7 k8)
      go_wp2_with fail
      refine ST4.out.mono ?_
      rintro e w9 ⟨rfl, hb⟩
      have B9 := Lib.hid (bthen B6.out hb B6.out.size)
      clear hb
      go_wp2_with fail
      go_ret
      exact ⟨rfl, B9.out⟩
end Go.Proofs.YtilneflfeegnfaaGreat
namespace Go.Proofs.YtilneflfeegnfaaGreat
open Go.RowKit
theorem ck_ch (y : Hc) (h : y.Ok) : Ck (ch y) := by
  unfold ch
  have h1 := h.a
  have h2 := h.b
  constructor <;> dsimp only <;> omega
theorem cf_old (y : Hc) (h : y.Ok) : (ch y).b ≤ 100 := by
  unfold ch
  dsimp only
  omega
theorem t3_hs (c : Cf) : ∀ (l : List Hl.Hr) (x : Stt), (l.foldl (t3h c) x).hs = x.hs ∧ (l.foldl (t3h c) x).now = x.now ∧ (l.foldl (t3h c) x).kn = x.kn ∧ (l.foldl (t3h c) x).pb = x.pb ∧ (l.foldl (t3h c) x).sw = x.sw
  | [], _ => ⟨rfl, rfl, rfl, rfl, rfl⟩
  | h :: l, x => by
    rw [List.foldl_cons]
    obtain ⟨h1, h2, h3, h4, h5⟩ := t3_hs c l (t3h c x h)
    rw [h1, h2, h3, h4, h5]
    unfold t3h
    split <;> exact ⟨rfl, rfl, rfl, rfl, rfl⟩
theorem f5_hs : ∀ (l : List Int) (S : Stt × List Pb.Pk), (l.foldl t5q S).1.hs = S.1.hs ∧ (l.foldl t5q S).1.now = S.1.now ∧ (l.foldl t5q S).1.kn = S.1.kn ∧ (l.foldl t5q S).1.cs = S.1.cs
  | [], _ => ⟨rfl, rfl, rfl, rfl⟩
  | a :: l, S => by
    rw [List.foldl_cons]
    obtain ⟨h1, h2, h3, h4⟩ := f5_hs l (t5q S a)
    rw [h1, h2, h3, h4]
    unfold t5q
    split <;> exact ⟨rfl, rfl, rfl, rfl⟩
theorem t5_hs (c : Cf) (x : Stt) : (t5 c x).1.hs = x.hs ∧ (t5 c x).1.now = x.now ∧ (t5 c x).1.kn = x.kn ∧ (t5 c x).1.cs = x.cs := by
  unfold t5
  obtain ⟨h1, h2, h3, h4⟩ := f5_hs (Sw.planO x.sw c.d x.now (min (c.e - ((Pb.ltO c.f c.g x.now c.e x.pb).2.length : Int)) (16 - ((Pb.ltO c.f c.g x.now c.e x.pb).1.length : Int)))).2 ({ x with pb := (Pb.ltO c.f c.g x.now c.e x.pb).1, sw := (Sw.planO x.sw c.d x.now (min (c.e - ((Pb.ltO c.f c.g x.now c.e x.pb).2.length : Int)) (16 - ((Pb.ltO c.f c.g x.now c.e x.pb).1.length : Int)))).1 }, (Pb.ltO c.f c.g x.now c.e x.pb).2.map Pb.pkO)
  exact ⟨h1, h2, h3, h4⟩
theorem tick_hs (c : Cf) (x : Stt) : (tickL c x).1.hs = (t2 c (t1 c x)).hs := by
  unfold tickL
  rw [(t5_hs c _).1]
  show (t3 c (t2 c (t1 c x))).hs = _
  exact (t3_hs c _ _).1
theorem chL_5 (x : Stt) (e : Evt) (h : e.k = 5) : chL x e = sawL x e.h.a e.s := by
  unfold chL
  rw [if_neg (by omega), if_neg (by omega), if_neg (by omega), if_neg (by omega), if_pos h]
def hA (a : Int) : Hl.Hr := ⟨a, ⟨#[97, 110, 110]⟩, 0, 0, 0, 0, 0, 0⟩
def evH (a : Int) : Evt := ⟨1, hA a, 0, 0, ⟨0, 0, 0, 0, 0, 0, 0, 0⟩⟩
def evN (k a f : Int) : Evt := ⟨k, ⟨a, ⟨#[]⟩, 0, 0, 0, 0, 0, 0⟩, 0, 0, ⟨f, 0, 0, 0, 0, 0, 0, 0⟩⟩
theorem evH_ok {a : Int} (h0 : 0 ≤ a) (h1 : a < 4294967296) : (evH a).Ok := ⟨⟨h0, h1, by show (3 : Nat) ≤ 9223372036854775807; decide⟩, Int.le_refl _, by show (0 : Int) < 4294967296; omega⟩
theorem evN_ok {k a f : Int} (h0 : 0 ≤ a) (h1 : a < 4294967296) : (evN k a f).Ok := ⟨⟨h0, h1, by show (0 : Nat) ≤ 9223372036854775807; decide⟩, Int.le_refl _, by show (0 : Int) < 4294967296; omega⟩
def s1 : Sn.Sg := ⟨1, 0, 0, 0, 0, 0, 0, 0⟩
end Go.Proofs.YtilneflfeegnfaaGreat
namespace Go.Proofs.YtilneflfeegnfaaGreat
open Go.RowKit
structure Ak where
  (q a b m o t : Int)
structure Ak.Ok (x : Ak) : Prop where
  q : 0 ≤ x.q ∧ x.q < 256
  a : 0 ≤ x.a ∧ x.a < 256
  b : 0 ≤ x.b ∧ x.b < 256
  m : 0 ≤ x.m ∧ x.m < 256
  o : 0 ≤ x.o ∧ x.o < 256
  t : 0 ≤ x.t ∧ x.t < 256
def akl (x : Ak) : List Value := [.int .u8 x.q, .int .u8 x.a, .int .u8 x.b, .int .u8 x.m, .int .u8 x.o, .int .u8 x.t]
def akv (x : Ak) : Value := .agg #[.int .u8 x.q, .int .u8 x.a, .int .u8 x.b, .int .u8 x.m, .int .u8 x.o, .int .u8 x.t]
def eAk : El Ak := ⟨akl, 6, by decide, fun _ => rfl, by
  intro x u hu
  simp [akl] at hu
  rcases hu with rfl | rfl | rfl | rfl | rfl | rfl <;> rfl⟩
end Go.Proofs.YtilneflfeegnfaaGreat
namespace Go.Proofs.YtilneflfeegnfaaGreat
open Go.ChangeShapes Go.WideShapes Go.ChangeAt Go.RowKit
theorem own : ownKnob Tryz.prog.godebug = none := by kernel_rfl
theorem laidOut : laidOutB Tryz.prog = true := by kernel_rfl
theorem wf_u8 {n : Int} (h : (Lit.int .u8 n).wf = true) : 0 ≤ n ∧ n < 256 := by
  have : 0 ≤ n ∧ n ≤ 255 := by simpa [Lit.wf, IntKind.min, IntKind.max, IntKind.signed, IntKind.bits] using h
  omega
theorem wf_u32 {n : Int} (h : (Lit.int .u32 n).wf = true) : 0 ≤ n ∧ n < 4294967296 := by
  have : 0 ≤ n ∧ n ≤ 4294967295 := by simpa [Lit.wf, IntKind.min, IntKind.max, IntKind.signed, IntKind.bits] using h
  omega
theorem cells79 : Tryz.prog.cellsOf 79 = 6 := by kernel_rfl
theorem cells23 : Tryz.prog.cellsOf 23 = 9 := by kernel_rfl
theorem cells5 : Tryz.prog.cellsOf 5 = 1 := by kernel_rfl
theorem cells3 : Tryz.prog.cellsOf 3 = 1 := by kernel_rfl
theorem bytes79 : 1 ≤ Tryz.prog.bytesOf 79 := of_decide_eq_true (by kernel_rfl)
set_option maxRecDepth 100000 in
theorem one_act {H : Type} {enc : TypeId × Value → H} {W : World} {fuel : Nat} {cs : List Value} {d : DataW H × List MemPlace} (h : DataW.trod enc Tryz.prog W 0 (fun _ => true) true fuel 79 cs = some d) : ∃ a : Ak, a.Ok ∧ cs = akl a := by
  obtain ⟨ys, n, _, _, hl', hy, hf⟩ := DataW.trod_struct Tryz.underlying79 h
  rw [cells79] at hl'
  match cs, hl' with
  | [v0, v1, v2, v3, v4, v5], _ =>
    have hy : ys.length = 6 := hy
    match ys, hy with
    | [y0, y1, y2, y3, y4, y5], _ =>
      have f0 := hf 0 _ rfl
      have f1 := hf 1 _ rfl
      have f2 := hf 2 _ rfl
      have f3 := hf 3 _ rfl
      have f4 := hf 4 _ rfl
      have f5 := hf 5 _ rfl
      simp only [cells5, List.drop_zero, List.drop_succ_cons, List.take_succ_cons, List.take_zero, List.getElem?_cons_zero, List.getElem?_cons_succ] at f0 f1 f2 f3 f4 f5
      obtain ⟨n0, e0, _, w0⟩ := DataW.trod_int Tryz.underlying5 f0
      obtain ⟨n1, e1, _, w1⟩ := DataW.trod_int Tryz.underlying5 f1
      obtain ⟨n2, e2, _, w2⟩ := DataW.trod_int Tryz.underlying5 f2
      obtain ⟨n3, e3, _, w3⟩ := DataW.trod_int Tryz.underlying5 f3
      obtain ⟨n4, e4, _, w4⟩ := DataW.trod_int Tryz.underlying5 f4
      obtain ⟨n5, e5, _, w5⟩ := DataW.trod_int Tryz.underlying5 f5
      refine ⟨⟨n0, n1, n2, n3, n4, n5⟩, ⟨wf_u8 w0, wf_u8 w1, wf_u8 w2, wf_u8 w3, wf_u8 w4, wf_u8 w5⟩, ?_⟩
      have e0 := List.head_eq_of_cons_eq e0
      have e1 := List.head_eq_of_cons_eq e1
      have e2 := List.head_eq_of_cons_eq e2
      have e3 := List.head_eq_of_cons_eq e3
      have e4 := List.head_eq_of_cons_eq e4
      have e5 := List.head_eq_of_cons_eq e5
      rw [e0, e1, e2, e3, e4, e5]
      rfl
set_option maxRecDepth 100000 in
theorem one_hc {H : Type} {enc : TypeId × Value → H} {W : World} {fuel : Nat} {cs : List Value} {d : DataW H × List MemPlace} (h : DataW.trod enc Tryz.prog W 0 (fun _ => true) true fuel 23 cs = some d) : ∃ a : Hc, a.Ok ∧ cs = hl a := by
  obtain ⟨ys, n, _, _, hl', hy, hf⟩ := DataW.trod_struct Tryz.underlying23 h
  rw [cells23] at hl'
  match cs, hl' with
  | [v0, v1, v2, v3, v4, v5, v6, v7, v8], _ =>
    have hy : ys.length = 9 := hy
    match ys, hy with
    | [y0, y1, y2, y3, y4, y5, y6, y7, y8], _ =>
      have f0 := hf 0 _ rfl
      have f1 := hf 1 _ rfl
      have f2 := hf 2 _ rfl
      have f3 := hf 3 _ rfl
      have f4 := hf 4 _ rfl
      have f5 := hf 5 _ rfl
      have f6 := hf 6 _ rfl
      have f7 := hf 7 _ rfl
      have f8 := hf 8 _ rfl
      simp only [cells5, List.drop_zero, List.drop_succ_cons, List.take_succ_cons, List.take_zero, List.getElem?_cons_zero, List.getElem?_cons_succ] at f0 f1 f2 f3 f4 f5 f6 f7 f8
      obtain ⟨n0, e0, _, w0⟩ := DataW.trod_int Tryz.underlying5 f0
      obtain ⟨n1, e1, _, w1⟩ := DataW.trod_int Tryz.underlying5 f1
      obtain ⟨n2, e2, _, w2⟩ := DataW.trod_int Tryz.underlying5 f2
      obtain ⟨n3, e3, _, w3⟩ := DataW.trod_int Tryz.underlying5 f3
      obtain ⟨n4, e4, _, w4⟩ := DataW.trod_int Tryz.underlying5 f4
      obtain ⟨n5, e5, _, w5⟩ := DataW.trod_int Tryz.underlying5 f5
      obtain ⟨n6, e6, _, w6⟩ := DataW.trod_int Tryz.underlying5 f6
      obtain ⟨n7, e7, _, w7⟩ := DataW.trod_int Tryz.underlying5 f7
      obtain ⟨n8, e8, _, w8⟩ := DataW.trod_int Tryz.underlying5 f8
      refine ⟨⟨n0, n1, n2, n3, n4, n5, n6, n7, n8⟩, ⟨wf_u8 w0, wf_u8 w1, wf_u8 w2, wf_u8 w3, wf_u8 w4, wf_u8 w5, wf_u8 w6, wf_u8 w7, wf_u8 w8⟩, ?_⟩
      have e0 := List.head_eq_of_cons_eq e0
      have e1 := List.head_eq_of_cons_eq e1
      have e2 := List.head_eq_of_cons_eq e2
      have e3 := List.head_eq_of_cons_eq e3
      have e4 := List.head_eq_of_cons_eq e4
      have e5 := List.head_eq_of_cons_eq e5
      have e6 := List.head_eq_of_cons_eq e6
      have e7 := List.head_eq_of_cons_eq e7
      have e8 := List.head_eq_of_cons_eq e8
      rw [e0, e1, e2, e3, e4, e5, e6, e7, e8]
      rfl
set_option maxRecDepth 100000 in
theorem open_row {α : Type} {H : Type} {enc : TypeId × Value → H} {W : World} (S E N : Nat) (ok : α → Prop) (cl : α → List Value) (z0 : α) (hS : Tryz.prog.underlying S = some (.slice E)) (hN : Tryz.prog.cellsOf E = N) (hB : 1 ≤ Tryz.prog.bytesOf E) (hcl : ∀ a, (cl a).length = N)
    (hone : ∀ fuel cs d, DataW.trod enc Tryz.prog W 0 (fun _ => true) true fuel E cs = some d → ∃ a, ok a ∧ cs = cl a) {a : Option Addr} {len cap : Nat} {d : DataW H} {p : List MemPlace}
    (h : DataW.Trod enc Tryz.prog W 0 (fun _ => true) true S (.slice a len cap) d p)
    (hs : ∀ elems spare, d = .slice elems spare → (elems.length + spare.length) * Tryz.prog.bytesOf E ≤ reachBytes) : ∃ xs : List α, len = xs.length ∧ (xs.length ≤ 140737488355328 ∧ ∀ (q : Nat) (x : α), xs[q]? = some x → ok x ∧ ∃ y, a = some y ∧ ∀ j v, (cl x)[j]? = some v → W.cell? (y.add (q * N + j)) = some v) ∧ len ≤ cap := by
  obtain ⟨fuel, hf⟩ := h
  rcases Go.Deep.open_slice hS hf with ⟨hcs, _⟩ | ⟨x, l, c, m, n, D, Pl, hcs, _, hl, _, hm, hx, hi⟩
  · simp [Value.cells] at hcs
    obtain ⟨rfl, rfl, rfl⟩ := hcs
    exact ⟨[], rfl, ⟨by simp, fun q a hq => by simp at hq⟩, Nat.le_refl _⟩
  · simp [Value.cells] at hcs
    obtain ⟨rfl, rfl, rfl⟩ := hcs
    have hm : m = cap := by simpa using hm
    subst hm
    have hd : d = .slice ((List.range len).map D) ((List.range (m - len)).map fun j => D (len + j)) := by injection hx
    have hr := hs _ _ hd
    simp only [List.length_map, List.length_range, reachBytes] at hr
    have hlen : len ≤ 140737488355328 := by
      have h1 : (len + (m - len)) * 1 ≤ (len + (m - len)) * Tryz.prog.bytesOf E := Nat.mul_le_mul_left _ hB
      omega
    have hex : ∀ i, i < len → ∃ z : α, ok z ∧ ∀ j v, (cl z)[j]? = some v → W.cell? (x.add (i * N + j)) = some v := by
      intro i hil
      obtain ⟨cs, hc, ht⟩ := hi i (by omega)
      rw [hN] at hc
      obtain ⟨z, hz, rfl⟩ := hone _ _ _ ht
      obtain ⟨_, hcl', hat⟩ := World.cells?_some hc
      refine ⟨z, hz, fun j v hv => ?_⟩
      have hj : j < N := by have := (List.getElem?_eq_some_iff.1 hv).1; rwa [hcl] at this
      rw [← Go.Deep.add_add, hat j hj, hv]
    refine ⟨(List.range len).map fun i => if h : i < len then Classical.choose (hex i h) else z0, by simp, ⟨by simpa using hlen, fun q z hq => ?_⟩, hl⟩
    have hql : q < len := by have := (List.getElem?_eq_some_iff.1 hq).1; simpa using this
    have hz : Classical.choose (hex q hql) = z := by simpa [hql] using hq
    have := Classical.choose_spec (hex q hql)
    rw [hz] at this
    exact ⟨this.1, x, rfl, this.2⟩
set_option maxRecDepth 100000 in
theorem open_acts {H : Type} {enc : TypeId × Value → H} {W : World} {a : Option Addr} {len cap : Nat} {d : DataW H} {p : List MemPlace}
    (h : DataW.Trod enc Tryz.prog W 0 (fun _ => true) true 24 (.slice a len cap) d p)
    (hs : ∀ elems spare, d = .slice elems spare → (elems.length + spare.length) * Tryz.prog.bytesOf 79 ≤ reachBytes) : ∃ xs : List _, len = xs.length ∧ Rw eAk W a xs ∧ len ≤ cap ∧ ∀ x ∈ xs, x.Ok := by
  obtain ⟨xs, h1, h2, h3⟩ := open_row 24 79 6 (Ak.Ok) akl ⟨0, 0, 0, 0, 0, 0⟩ Tryz.underlying24 cells79 bytes79 (fun _ => rfl) (fun _ _ _ h => one_act h) h hs
  refine ⟨xs, h1, ⟨h2.1, fun q x hq => (h2.2 q x hq).2⟩, h3, fun x hx => ?_⟩
  obtain ⟨q, hq, rfl⟩ := List.mem_iff_getElem.1 hx
  exact (h2.2 q _ (List.getElem?_eq_getElem hq)).1
set_option maxRecDepth 100000 in
theorem open_hc {H : Type} {enc : TypeId × Value → H} {W : World} {r : Reach} {q : Nat} {v : Value} {d : DataW H} {pp : List MemPlace} (hval : Value.okWide Tryz.prog W r q 23 v)
    (h : DataW.Trod enc Tryz.prog W 0 (fun _ => true) true 23 v d pp) : ∃ a : Hc, v = hv a ∧ a.Ok := by
  have hv' : ∃ cs, v = .agg cs ∧ cs.size = Tryz.prog.cellsOf 23 := by
    simp only [Value.okWide, Tryz.underlying23] at hval
    obtain ⟨cs, h1, h2, _⟩ := hval
    exact ⟨cs, h1, h2⟩
  obtain ⟨⟨cs⟩, rfl, hsz⟩ := hv'
  obtain ⟨fuel, hf⟩ := h
  obtain ⟨a, hk, hs⟩ := one_hc hf
  simp only [Value.cells] at hs
  subst hs
  exact ⟨a, rfl, hk⟩
end Go.Proofs.YtilneflfeegnfaaGreat
namespace Go.Proofs.YtilneflfeegnfaaGreat
open Go.RowKit
def kt : Nat → Int
  | 0 => 0 | 1 => 0 | 2 => 0 | 3 => 1 | 4 => 1 | 5 => 2 | 6 => 3 | 7 => 4 | 8 => 5 | 9 => 5 | 10 => 5 | 11 => 6 | 12 => 6 | 13 => 7 | 14 => 5 | _ => 8
def s0 (m : Int) : Int := if m < 128 then 2 else 0
def s5 (m : Int) : Int := if m < 128 then 1 + m % 3 else 0
theorem stat_any (m : Int) (w : World) (h0 : 0 ≤ m) (h1 : m < 256) : Calls Tryz.prog 48 #[.int .u8 m] w fun e w' => e = .returned (.agg #[.int .u8 (s0 m), .int .u8 0, .int .u8 0, .int .u8 0, .int .u8 0, .int .u8 (s5 m)]) ∧ Below w.heap.size w w' := by
  refine (Su.station_any m w h0 h1).mono fun e w' ⟨he, hb⟩ => ⟨?_, hb⟩
  rw [he]
  by_cases h : m < 128 <;> simp [s0, s5, h, Su.sn, Su.mv, Su.zm]
def oS (r : Nat) : ByteArray := ⟨#[UInt8.ofNat (97 + r)]⟩
def oT (r : Nat) : ByteArray := ⟨#[111, UInt8.ofNat (97 + r)]⟩
theorem run_oS (r : Nat) (hr : r < 8) (W : World) : (Instr.slice 9 (.string ⟨#[97, 98, 99, 100, 101, 102, 103, 104]⟩) (some (.int .u8 (r : Int))) (some (.int .u8 ((r : Int) + 1))) none).run Tryz.prog W = .ok (.string (oS r)) W := by
  rcases (show r = 0 ∨ r = 1 ∨ r = 2 ∨ r = 3 ∨ r = 4 ∨ r = 5 ∨ r = 6 ∨ r = 7 by omega) with rfl | rfl | rfl | rfl | rfl | rfl | rfl | rfl <;> kernel_rfl
theorem run_oT (r : Nat) (W : World) : (Op.stringOp .add ⟨#[111]⟩ (oS r)).run Tryz.prog W = .ok (.string (oT r)) W := by
  unfold oS oT Op.stringOp
  rfl
def evA (y : Ak) : Evt := ⟨kt (y.q % 16).toNat, ⟨167772160 + y.a % 16, oT (y.o % 8).toNat, s0 y.m, 0, 0, 0, 0, s5 y.m⟩, (167772160 + y.a % 64) - (167772160 + y.a % 64) % Sw.p2 (20 + (8 + y.b % 5) % 13), 20 + (8 + y.b % 5) % 13, ⟨y.o % 4, s0 (y.m / 2), 0, 0, 0, 0, s5 (y.m / 2), 0⟩⟩
theorem evA_ok (y : Ak) (h : y.Ok) : (evA y).Ok := by
  have h1 := h.a
  have h2 := Sw.p2_pos (20 + (8 + y.b % 5) % 13)
  have e1 := Int.mul_ediv_add_emod (167772160 + y.a % 64) (Sw.p2 (20 + (8 + y.b % 5) % 13))
  have e2 := Int.emod_nonneg (167772160 + y.a % 64) (Int.ne_of_gt h2)
  have e3 : 0 ≤ Sw.p2 (20 + (8 + y.b % 5) % 13) * ((167772160 + y.a % 64) / Sw.p2 (20 + (8 + y.b % 5) % 13)) := Int.mul_nonneg (Int.le_of_lt h2) (Int.ediv_nonneg (by omega) (Int.le_of_lt h2))
  refine ⟨⟨?_, ?_, ?_⟩, ?_, ?_⟩
  · show (0 : Int) ≤ 167772160 + y.a % 16; omega
  · show (167772160 : Int) + y.a % 16 < 4294967296; omega
  · show (2 : Nat) ≤ _; omega
  · show (0 : Int) ≤ (167772160 + y.a % 64) - _; omega
  · show (167772160 + y.a % 64) - _ < (4294967296 : Int); omega
def ze : Evt := ⟨0, ⟨0, ⟨#[]⟩, 0, 0, 0, 0, 0, 0⟩, 0, 0, ⟨0, 0, 0, 0, 0, 0, 0, 0⟩⟩
def Akx (y : Ak) : Obj := .cells #[.int .u8 y.q, .int .u8 y.a, .int .u8 y.b, .int .u8 y.m, .int .u8 y.o, .int .u8 y.t] 79
theorem ak_box (w : World) (y : Ak) : Cx (w.alloc (Akx y)) w.heap.size (akl y) := cx_box w _ _ _ rfl
theorem ev_box (w : World) (e : Evt) : Cx (w.alloc (Evx e)) w.heap.size (evl e) := cx_box w _ _ _ rfl
theorem at_storeEv {ops : Array Oper} {rest : List Oper} {o : Oper} {a : Act} {w : World} {Q : Exit → Act → World → Prop} (x y : Operand) (b : Nat) (e e' : Evt) (H : Cx w b (evl e)) (hgd : o.guard = none) (ho : o.op = .store 51 x y) (hx : a.eval x = .pointer (some ⟨b, 0, none⟩)) (hy : a.eval y = evv e')
    (h : ∀ w', Hid (Cx w' b (evl e')) → Hid (∀ B, B ≤ b → Below B w w') → Hid (∀ k, k ≠ b → w'.heap[k]? = w.heap[k]?) → wpList Tryz.prog ops Q rest (a.put o.dst undef) w') : wpList Tryz.prog ops Q (o :: rest) a w :=
  at_put 51 x y b [] (evl e) (evl e') [] (by simpa using H) rfl (by rw [sizeEv]; rfl) (by simp [evl, Value.oneCell']) hgd ho hx hy (fun w' h1 h2 h3 => h w' (Lib.hid (by simpa using h1.out)) h2 h3)
theorem loadvEv {w : World} {b : Nat} {e : Evt} (h : Cx w b (evl e)) : (loadVar 51 ⟨b, 0, none⟩).run Tryz.prog w = .ok (evv e) w := loadv _ _ h Tryz.underlying51 rfl (by rw [sizeEv]; rfl)
def Ktx : Obj := .cells #[.int .i64 0, .int .i64 0, .int .i64 0, .int .i64 1, .int .i64 1, .int .i64 2, .int .i64 3, .int .i64 4, .int .i64 5, .int .i64 5, .int .i64 5, .int .i64 6, .int .i64 6, .int .i64 7, .int .i64 5, .int .i64 8] 38
theorem kt_cell (w : World) (j : Nat) (hj : j < 16) : (w.alloc Ktx).cell? ⟨w.heap.size, j, none⟩ = some (.int .i64 (kt j)) := by
  rcases (show j = 0 ∨ j = 1 ∨ j = 2 ∨ j = 3 ∨ j = 4 ∨ j = 5 ∨ j = 6 ∨ j = 7 ∨ j = 8 ∨ j = 9 ∨ j = 10 ∨ j = 11 ∨ j = 12 ∨ j = 13 ∨ j = 14 ∨ j = 15 by omega) with rfl | rfl | rfl | rfl | rfl | rfl | rfl | rfl | rfl | rfl | rfl | rfl | rfl | rfl | rfl | rfl <;> simp [Ktx, kt]
theorem size_str : (Tryz.prog.info? 9).map (·.size) = some 1 := by kernel_rfl
theorem size_mac : (Tryz.prog.info? 42).map (·.size) = some 6 := by kernel_rfl
theorem size_blk : (Tryz.prog.info? 46).map (·.size) = some 2 := by kernel_rfl
theorem size_sgt : (Tryz.prog.info? 49).map (·.size) = some 8 := by kernel_rfl
theorem run_rem (N n j : Int) (hN : 0 < N ∧ N < 256) (h0 : 0 ≤ n) (h1 : n < 256) (hj : n % N = j) (W : World) : (binOp .rem 5 (.int .u8 n) (.int .u8 N)).run Tryz.prog W = .ok (.int .u8 j) W := by
  have e : n.tmod N = j := by rw [Int.tmod_eq_emod_of_nonneg h0]; exact hj
  have e3 := Int.emod_nonneg n (Int.ne_of_gt hN.1)
  have e4 := Int.emod_lt_of_pos n hN.1
  have e2 : IntKind.u8.wrap j = j := by rw [IntKind.wrap_u8]; omega
  have e5 : N ≠ 0 := Int.ne_of_gt hN.1
  simp [go_sem, e, e2, e5]
theorem at_rem {ops : Array Oper} {rest : List Oper} {o : Oper} {a : Act} {w : World} {Q : Exit → Act → World → Prop} (x y : Operand) (N n j : Int) (hN : 0 < N ∧ N < 256) (h0 : 0 ≤ n) (h1 : n < 256) (hj : n % N = j) (hgd : o.guard = none) (ho : o.op = .binOp .rem 5 x y 5) (hx : a.eval x = .int .u8 n) (hy : a.eval y = .int .u8 N)
    (h : wpList Tryz.prog ops Q rest (a.put o.dst (.int .u8 j)) w) : wpList Tryz.prog ops Q (o :: rest) a w :=
  wpList_plain hgd fun _ hK => by
    unfold Oper.wp execOp
    simp only [ho, hx, hy, Sem.run_bind, Sem.run_pure, Result.andThen_ok, run_rem N n j hN h0 h1 hj]
    exact hK _ _ h
set_option maxRecDepth 100000 in
set_option maxHeartbeats 4000000 in
theorem ev_any (y : Ak) (w : World) (h : y.Ok) : Calls Tryz.prog 25 #[akv y] w fun e w' => e = .returned (evv (evA y)) ∧ Below w.heap.size w w' := by
  obtain ⟨q, a, b, m, o, t⟩ := y
  obtain ⟨⟨hq0, hq1⟩, ⟨ha0, ha1⟩, ⟨hb0, hb1⟩, ⟨hm0, hm1⟩, ⟨ho0, ho1⟩, ⟨ht0, ht1⟩⟩ := h
  dsimp only at hq0 hq1 ha0 ha1 hb0 hb1 hm0 hm1 ho0 ho1 ht0 ht1
  obtain ⟨j, hj⟩ : ∃ j : Nat, q % 16 = j := ⟨(q % 16).toNat, by omega⟩
  have hj16 : j < 16 := by omega
  have hjt : q.tmod 16 = j := by rw [Int.tmod_eq_emod_of_nonneg hq0]; exact hj
  obtain ⟨a16, ha⟩ : ∃ n, a % 16 = n := ⟨_, rfl⟩
  have hat : a.tmod 16 = a16 := by rw [Int.tmod_eq_emod_of_nonneg ha0]; exact ha
  obtain ⟨K, hK⟩ : ∃ n, kt j = n := ⟨_, rfl⟩
  have KC := Lib.hid fun W => hK ▸ kt_cell W j hj16
  have HE := Lib.hid (show evA ⟨q, a, b, m, o, t⟩ = ⟨K, ⟨167772160 + a16, oT (o % 8).toNat, s0 m, 0, 0, 0, 0, s5 m⟩, (167772160 + a % 64) - (167772160 + a % 64) % Sw.p2 (20 + (8 + b % 5) % 13), 20 + (8 + b % 5) % 13, ⟨o % 4, s0 (m / 2), 0, 0, 0, 0, s5 (m / 2), 0⟩⟩ by rw [← hK, ← ha]; unfold evA; dsimp only; rw [hj]; rfl)
  have P0 := Lib.hid (ev_box (w.alloc (Akx ⟨q, a, b, m, o, t⟩)) ze)
  have B0 := Lib.hid (((Below.refl w.heap.size w).alloc (Nat.le_refl _) (Akx ⟨q, a, b, m, o, t⟩)).alloc (by simp) (Evx ze))
  have S0 := Lib.hid (show Cx ((w.alloc (Akx ⟨q, a, b, m, o, t⟩)).alloc (Evx ze)) w.heap.size (akl ⟨q, a, b, m, o, t⟩) from (ak_box w _).keep ((Below.refl (w.alloc (Akx ⟨q, a, b, m, o, t⟩)).heap.size _).alloc (Nat.le_refl _) _) (by simp))
  rw [World.size_alloc] at P0
  have q2 : ((w.alloc (Akx ⟨q, a, b, m, o, t⟩)).alloc (Evx ze)).heap.size = w.heap.size + 1 + 1 := by simp
  unfold akv
  have HS2 := Lib.hid q2
  unfold Akx Evx at *
  simp only [evl, ze] at P0 B0 S0 HS2
  have HR := Lib.hid (And.intro hj ha)
  clear hK hj q2 ha hat hjt
  go_enter Tryz.func25, Tryz.ntmps25
  go_upto_region 1 with fail
  generalize (w.alloc (.cells #[.int .u8 q, .int .u8 a, .int .u8 b, .int .u8 m, .int .u8 o, .int .u8 t] 79)).alloc (.cells #[.int .i64 0, .int .u32 0, .string ⟨#[]⟩, .int .u8 0, .int .u8 0, .int .u8 0, .int .u8 0, .int .u8 0, .int .u8 0, .int .u32 0, .int .i64 0, .int .i64 0, .int .u8 0, .int .u8 0, .int .u8 0, .int .u8 0, .int .u8 0, .int .u8 0, .int .i64 0] 51) = W0 at *
  unfold Ktx at KC
  have B1 := Lib.hid (B0.out.alloc (by rw [HS2.out]; omega) (.cells #[.int .i64 0, .int .i64 0, .int .i64 0, .int .i64 1, .int .i64 1, .int .i64 2, .int .i64 3, .int .i64 4, .int .i64 5, .int .i64 5, .int .i64 5, .int .i64 6, .int .i64 6, .int .i64 7, .int .i64 5, .int .i64 8] 38))
  have S1 := Lib.hid (show Cx (W0.alloc (.cells #[.int .i64 0, .int .i64 0, .int .i64 0, .int .i64 1, .int .i64 1, .int .i64 2, .int .i64 3, .int .i64 4, .int .i64 5, .int .i64 5, .int .i64 5, .int .i64 6, .int .i64 6, .int .i64 7, .int .i64 5, .int .i64 8] 38)) w.heap.size _ from S0.out.keep ((Below.refl W0.heap.size W0).alloc (Nat.le_refl _) _) (by rw [HS2.out]; omega))
  have P1 := Lib.hid (show Cx (W0.alloc (.cells #[.int .i64 0, .int .i64 0, .int .i64 0, .int .i64 1, .int .i64 1, .int .i64 2, .int .i64 3, .int .i64 4, .int .i64 5, .int .i64 5, .int .i64 5, .int .i64 6, .int .i64 6, .int .i64 7, .int .i64 5, .int .i64 8] 38)) (w.heap.size + 1) (evl ze) from P0.out.keep ((Below.refl W0.heap.size W0).alloc (Nat.le_refl _) _) (by rw [HS2.out]; omega))
  have q3 : (W0.alloc (.cells #[.int .i64 0, .int .i64 0, .int .i64 0, .int .i64 1, .int .i64 1, .int .i64 2, .int .i64 3, .int .i64 4, .int .i64 5, .int .i64 5, .int .i64 5, .int .i64 6, .int .i64 6, .int .i64 7, .int .i64 5, .int .i64 8] 38)).heap.size = W0.heap.size + 1 := by simp
  have kc := KC.out W0
  have HS3 := Lib.hid (show w.heap.size + 1 < W0.heap.size ∧ W0.heap.size < (W0.alloc (.cells #[.int .i64 0, .int .i64 0, .int .i64 0, .int .i64 1, .int .i64 1, .int .i64 2, .int .i64 3, .int .i64 4, .int .i64 5, .int .i64 5, .int .i64 5, .int .i64 6, .int .i64 6, .int .i64 7, .int .i64 5, .int .i64 8] 38)).heap.size by rw [q3]; exact ⟨by rw [HS2.out]; omega, by omega⟩)
  clear q3 KC B0 S0 P0 HS2
  have c0 := S1.out.key 0 _ rfl
  have c1 := S1.out.key 1 _ rfl
  go_upto_region 2 with (first | (refine at_rem _ _ 16 q j (by decide) hq0 hq1 HR.out.1 rfl rfl rfl rfl ?_))
  generalize W0.alloc (.cells #[.int .i64 0, .int .i64 0, .int .i64 0, .int .i64 1, .int .i64 1, .int .i64 2, .int .i64 3, .int .i64 4, .int .i64 5, .int .i64 5, .int .i64 5, .int .i64 6, .int .i64 6, .int .i64 7, .int .i64 5, .int .i64 8] 38) = W1 at *
  have h16 : 0 ≤ a16 ∧ a16 < 16 := by have := HR.out.2; omega
  have B2 := Lib.hid (B1.out.alloc B1.out.size (.cells #[.int .i64 0, .int .u32 0, .string ⟨#[]⟩, .int .u8 0, .int .u8 0, .int .u8 0, .int .u8 0, .int .u8 0, .int .u8 0, .int .u32 0, .int .i64 0, .int .i64 0, .int .u8 0, .int .u8 0, .int .u8 0, .int .u8 0, .int .u8 0, .int .u8 0, .int .i64 0] 51))
  have S2 := Lib.hid (show Cx (W1.alloc (.cells #[.int .i64 0, .int .u32 0, .string ⟨#[]⟩, .int .u8 0, .int .u8 0, .int .u8 0, .int .u8 0, .int .u8 0, .int .u8 0, .int .u32 0, .int .i64 0, .int .i64 0, .int .u8 0, .int .u8 0, .int .u8 0, .int .u8 0, .int .u8 0, .int .u8 0, .int .i64 0] 51)) w.heap.size (akl ⟨q, a, b, m, o, t⟩) from S1.out.keep ((Below.refl W1.heap.size W1).alloc (Nat.le_refl _) _) (by have := HS3.out; omega))
  have P2 := Lib.hid (show Cx (W1.alloc (.cells #[.int .i64 0, .int .u32 0, .string ⟨#[]⟩, .int .u8 0, .int .u8 0, .int .u8 0, .int .u8 0, .int .u8 0, .int .u8 0, .int .u32 0, .int .i64 0, .int .i64 0, .int .u8 0, .int .u8 0, .int .u8 0, .int .u8 0, .int .u8 0, .int .u8 0, .int .i64 0] 51)) (w.heap.size + 1) (evl ze) from P1.out.keep ((Below.refl W1.heap.size W1).alloc (Nat.le_refl _) _) (by have := HS3.out; omega))
  have Z2 := Lib.hid (show Cx (W1.alloc (.cells #[.int .i64 0, .int .u32 0, .string ⟨#[]⟩, .int .u8 0, .int .u8 0, .int .u8 0, .int .u8 0, .int .u8 0, .int .u8 0, .int .u32 0, .int .i64 0, .int .i64 0, .int .u8 0, .int .u8 0, .int .u8 0, .int .u8 0, .int .u8 0, .int .u8 0, .int .i64 0] 51)) W1.heap.size (evl ze) from ev_box W1 ze)
  clear kc S1 P1 c0
  go_wp2_with (first | (refine at_rem _ _ 16 a a16 (by decide) ha0 ha1 HR.out.2 rfl rfl rfl rfl ?_) | (refine at_storeEv _ _ W1.heap.size ze ⟨K, ⟨167772160 + a16, ⟨#[]⟩, 0, 0, 0, 0, 0, 0⟩, 0, 0, ⟨0, 0, 0, 0, 0, 0, 0, 0⟩⟩ Z2.out rfl rfl rfl rfl ?_; intro w3 Z3 B3 G3; have P3 := Lib.hid (P2.out.keep (B3.out _ (Nat.le_refl _)) (by have := HS3.out; omega)); have S3 := Lib.hid (S2.out.keep (B3.out _ (Nat.le_refl _)) (by have := HS3.out; omega)); have Y3 := Lib.hid (B2.out.trans (B3.out _ B1.out.size))))
  have HS := Lib.hid fun W => stat_any m W hm0 hm1
  obtain ⟨m0, hm0'⟩ : ∃ n, s0 m = n := ⟨_, rfl⟩
  obtain ⟨m5, hm5'⟩ : ∃ n, s5 m = n := ⟨_, rfl⟩
  rw [hm0', hm5'] at HS HE
  obtain ⟨r, hr⟩ : ∃ r : Nat, o % 8 = r := ⟨(o % 8).toNat, by omega⟩
  have hr8 : r < 8 := by omega
  have hrt : (o % 8).toNat = r := by omega
  rw [hrt] at HE
  have htm : o.tmod 8 = (r : Int) := by rw [Int.tmod_eq_emod_of_nonneg ho0]; exact hr
  have hO := run_oS r hr8
  have hT := run_oT r
  have hW : ((r : Int) + 1) % 256 = (r : Int) + 1 := by omega
  have hsl : ∀ W, (Instr.slice 9 (.string ⟨#[97, 98, 99, 100, 101, 102, 103, 104]⟩) (some (.int .u8 (o % 8))) (some (.int .u8 (o % 8 + 1))) none).run Tryz.prog W = .ok (.string (oS r)) W := fun W => by rw [hr]; exact hO W
  generalize oS r = O at *
  generalize oT r = T at *
  clear hO hm0' hm5' hr hr8 hrt htm hW c1
  have s3 := S3.out.key 3 _ rfl
  have s4 := S3.out.key 4 _ rfl
  have r3 := cell_regrown s3
  have r4 := cell_regrown s4
  have HSR := Lib.hid fun (d : Nat) (os : Array Obj) => Calls.regrown_of (d := d) (os := os) (HS.out (Sort.grow (redrawn w3 d) os))
  refine wp_region_quiet_tail_below 14 (by kernel_rfl) (by kernel_rfl) ?_
  simp only [List.take_succ_cons, List.take_zero, List.drop_succ_cons, List.drop_zero]
  repeat (go_big_quiet_step (first | (go_at_call 48; exact HSR.out _ _)))
  clear hsl hT r3 r4 s3 s4
  refine wpQuiet_nil ?_
  rintro W6 ⟨⟨dq, osq⟩, rfl⟩
  have B6 := Lib.hid (below_regrown w3 dq osq)
  have Z6 := Lib.hid (show Cx _ W1.heap.size (evl ⟨K, ⟨167772160 + a16, ⟨#[]⟩, 0, 0, 0, 0, 0, 0⟩, 0, 0, ⟨0, 0, 0, 0, 0, 0, 0, 0⟩⟩) from Cx.below Z3.out B6.out)
  have P6 := Lib.hid (show Cx _ (w.heap.size + 1) (evl ze) from Cx.below P3.out B6.out)
  have S6 := Lib.hid (show Cx _ w.heap.size (akl ⟨q, a, b, m, o, t⟩) from Cx.below S3.out B6.out)
  have Y6 := Lib.hid (Y3.out.trans (B6.out.mono Y3.out.size))
  generalize Sort.grow (redrawn w3 dq) osq = W6 at *
  clear S3 P3 Z3 Y3 HSR B3 G3 S2 P2 Z2 B6
  go_wp2_with (first | (refine at_put1 9 _ _ W1.heap.size [.int .i64 K, .int .u32 (167772160 + a16)] (.string ⟨#[]⟩) (.string T) [.int .u8 0, .int .u8 0, .int .u8 0, .int .u8 0, .int .u8 0, .int .u8 0, .int .u32 0, .int .i64 0, .int .i64 0, .int .u8 0, .int .u8 0, .int .u8 0, .int .u8 0, .int .u8 0, .int .u8 0, .int .i64 0] Z6.out size_str rfl rfl rfl rfl rfl rfl ?_; intro w7 Z7 B7 G7; have P7 := Lib.hid (P6.out.keep (B7.out _ (Nat.le_refl _)) (by have := HS3.out; omega)); have S7 := Lib.hid (S6.out.keep (B7.out _ (Nat.le_refl _)) (by have := HS3.out; omega)); have Y7 := Lib.hid (Y6.out.trans (B7.out _ (by have := HS3.out; omega)))) | (refine at_put 42 _ _ W1.heap.size [.int .i64 K, .int .u32 (167772160 + a16), .string T] [.int .u8 0, .int .u8 0, .int .u8 0, .int .u8 0, .int .u8 0, .int .u8 0] [.int .u8 m0, .int .u8 0, .int .u8 0, .int .u8 0, .int .u8 0, .int .u8 m5] [.int .u32 0, .int .i64 0, .int .i64 0, .int .u8 0, .int .u8 0, .int .u8 0, .int .u8 0, .int .u8 0, .int .u8 0, .int .i64 0] Z7.out rfl size_mac (by simp [Value.oneCell']) rfl rfl rfl rfl ?_; intro w8 Z8 B8 G8; have P8 := Lib.hid (P7.out.keep (B8.out _ (Nat.le_refl _)) (by have := HS3.out; omega)); have S8 := Lib.hid (S7.out.keep (B8.out _ (Nat.le_refl _)) (by have := HS3.out; omega)); have Y8 := Lib.hid (Y7.out.trans (B8.out _ (by have := HS3.out; omega))); have s1 := S8.out.key 1 _ rfl; have s2 := S8.out.key 2 _ rfl))
  have HB := Lib.hid fun W => Sw.block_any (167772160 + a % 64) (8 + b % 5) W (by omega) (by omega) (by omega) (by omega)
  have HU := Lib.hid fun W => stat_any (m / 2) W (by omega) (by omega)
  obtain ⟨E, hE⟩ : ∃ n, (167772160 + a % 64) - (167772160 + a % 64) % Sw.p2 (20 + (8 + b % 5) % 13) = n := ⟨_, rfl⟩
  rw [hE] at HB HE
  obtain ⟨N, hN⟩ : ∃ n, 20 + (8 + b % 5) % 13 = n := ⟨_, rfl⟩
  rw [hN] at HB HE
  obtain ⟨u0, hu0⟩ : ∃ n, s0 (m / 2) = n := ⟨_, rfl⟩
  obtain ⟨u5, hu5⟩ : ∃ n, s5 (m / 2) = n := ⟨_, rfl⟩
  rw [hu0, hu5] at HU HE
  clear hE hN hu0 hu5
  refine (HB.out _).mono ?_
  rintro e w9 ⟨rfl, hb⟩
  have Z9 := Lib.hid (show Cx w9 W1.heap.size (evl ⟨K, ⟨167772160 + a16, T, m0, 0, 0, 0, 0, m5⟩, 0, 0, ⟨0, 0, 0, 0, 0, 0, 0, 0⟩⟩) from Cx.below (show Cx w8 W1.heap.size (evl ⟨K, ⟨167772160 + a16, T, m0, 0, 0, 0, 0, m5⟩, 0, 0, ⟨0, 0, 0, 0, 0, 0, 0, 0⟩⟩) from Z8.out) hb)
  have P9 := Lib.hid (show Cx w9 (w.heap.size + 1) (evl ze) from Cx.below P8.out hb)
  have S9 := Lib.hid (show Cx w9 w.heap.size (akl ⟨q, a, b, m, o, t⟩) from Cx.below S8.out hb)
  have Y9 := Lib.hid (Y8.out.trans (hb.mono Y8.out.size))
  clear hb Z8 P8 S8 Y8 s1 s2 P7 S7 Z7 Y7 P6 S6 Z6 Y6 B7 G7 B8 G8
  go_wp2_with (first | (refine at_put 46 _ _ W1.heap.size [.int .i64 K, .int .u32 (167772160 + a16), .string T, .int .u8 m0, .int .u8 0, .int .u8 0, .int .u8 0, .int .u8 0, .int .u8 m5] [.int .u32 0, .int .i64 0] [.int .u32 E, .int .i64 N] [.int .i64 0, .int .u8 0, .int .u8 0, .int .u8 0, .int .u8 0, .int .u8 0, .int .u8 0, .int .i64 0] Z9.out rfl size_blk (by simp [Value.oneCell']) rfl rfl rfl rfl ?_; intro v1 Z1 B1' G1; have P1 := Lib.hid (P9.out.keep (B1'.out _ (Nat.le_refl _)) (by have := HS3.out; omega)); have S1 := Lib.hid (S9.out.keep (B1'.out _ (Nat.le_refl _)) (by have := HS3.out; omega)); have Y1 := Lib.hid (Y9.out.trans (B1'.out _ (by have := HS3.out; omega)))))
  have s3 := S1.out.key 3 _ rfl
  have s4 := S1.out.key 4 _ rfl
  have r3 := cell_regrown s3
  have r4 := cell_regrown s4
  have HSR := Lib.hid fun (d : Nat) (os : Array Obj) => Calls.regrown_of (d := d) (os := os) (HU.out (Sort.grow (redrawn v1 d) os))
  simp only [Act.put]
  refine wp_region_quiet_tail_below 9 (by kernel_rfl) (by kernel_rfl) ?_
  simp only [List.take_succ_cons, List.take_zero, List.drop_succ_cons, List.drop_zero]
  repeat (go_big_quiet_step (first | (go_at_call 48; exact HSR.out _ _)))
  clear r3 r4 s3 s4
  refine wpQuiet_nil ?_
  rintro V6 ⟨⟨dq, osq⟩, rfl⟩
  have B6 := Lib.hid (below_regrown v1 dq osq)
  have Z6 := Lib.hid (show Cx _ W1.heap.size (evl ⟨K, ⟨167772160 + a16, T, m0, 0, 0, 0, 0, m5⟩, E, N, ⟨0, 0, 0, 0, 0, 0, 0, 0⟩⟩) from Cx.below (show Cx _ W1.heap.size (evl ⟨K, ⟨167772160 + a16, T, m0, 0, 0, 0, 0, m5⟩, E, N, ⟨0, 0, 0, 0, 0, 0, 0, 0⟩⟩) from Z1.out) B6.out)
  have P6 := Lib.hid (show Cx _ (w.heap.size + 1) (evl ze) from Cx.below P1.out B6.out)
  have Y6 := Lib.hid (Y1.out.trans (B6.out.mono Y1.out.size))
  generalize Sort.grow (redrawn v1 dq) osq = V6 at *
  clear S1 P1 Z1 Y1 HSR B1' G1 B6
  go_wp2_with (first | (refine at_put 49 _ _ W1.heap.size [.int .i64 K, .int .u32 (167772160 + a16), .string T, .int .u8 m0, .int .u8 0, .int .u8 0, .int .u8 0, .int .u8 0, .int .u8 m5, .int .u32 E, .int .i64 N] [.int .i64 0, .int .u8 0, .int .u8 0, .int .u8 0, .int .u8 0, .int .u8 0, .int .u8 0, .int .i64 0] [.int .i64 (o % 4), .int .u8 u0, .int .u8 0, .int .u8 0, .int .u8 0, .int .u8 0, .int .u8 u5, .int .i64 0] [] Z6.out rfl size_sgt (by simp [Value.oneCell']) rfl rfl rfl rfl ?_; intro v7 Z7 B7 G7; have P7 := Lib.hid (P6.out.keep (B7.out _ (Nat.le_refl _)) (by have := HS3.out; omega)); have Y7 := Lib.hid (Y6.out.trans (B7.out _ (by have := HS3.out; omega)))) | (refine at_loadEv _ W1.heap.size ⟨K, ⟨167772160 + a16, T, m0, 0, 0, 0, 0, m5⟩, E, N, ⟨o % 4, u0, 0, 0, 0, 0, u5, 0⟩⟩ Z7.out rfl rfl rfl ?_) | (refine at_storeEv _ _ (w.heap.size + 1) ze ⟨K, ⟨167772160 + a16, T, m0, 0, 0, 0, 0, m5⟩, E, N, ⟨o % 4, u0, 0, 0, 0, 0, u5, 0⟩⟩ P7.out rfl rfl rfl rfl ?_; intro v8 P8 B8 G8))
  refine bodyPost_ret (results_cell rfl _ _ _ _ rfl (loadvEv P8.out)) rfl ?_
  rw [HE.out]
  exact ⟨rfl, Y7.out.trans (B8.out _ (by omega))⟩
end Go.Proofs.YtilneflfeegnfaaGreat
namespace Go.Proofs.YtilneflfeegnfaaGreat
open Go.RowKit
def nmA (y : Ak) : Nat := if (evA y).k = 0 then (y.t % 12).toNat else 0
def evk (y : Ak) : List Evt := List.replicate (nmA y + 1) (evA y)
def evsL (ys : List Ak) : List Evt := ys.flatMap evk
theorem nmA_lt (y : Ak) (h : y.Ok) : nmA y < 12 := by
  unfold nmA
  split <;> omega
theorem evsL_snoc (ys : List Ak) (y : Ak) : evsL (ys ++ [y]) = evsL ys ++ evk y := by simp [evsL]
theorem evsL_ok (ys : List Ak) (h : ∀ y ∈ ys, y.Ok) : ∀ e ∈ evsL ys, e.Ok := by
  intro e he
  simp only [evsL, List.mem_flatMap] at he
  obtain ⟨y, hy, he⟩ := he
  have := List.eq_of_mem_replicate he
  rw [this]
  exact evA_ok y (h y hy)
def eEv : El Evt := ⟨evl, 19, by decide, fun _ => rfl, by
  intro x u hu
  simp [evl] at hu
  rcases hu with rfl | rfl | rfl | rfl | rfl | rfl | rfl | rfl | rfl | rfl | rfl | rfl | rfl | rfl | rfl | rfl | rfl | rfl | rfl <;> rfl⟩
theorem infoEv : (Tryz.prog.info? 51).map (fun i => (i.zero.map (·.cells.size), i.size, decide (i.bytes ≤ 100))) = some (some 19, 19, true) := by kernel_rfl
theorem tEv : Ty eEv 36 51 := ⟨Tryz.underlying36, by
  obtain ⟨i, hi, he⟩ := Option.map_eq_some_iff.1 infoEv
  simp only [Prod.mk.injEq, Option.map_eq_some_iff, decide_eq_true_eq] at he
  obtain ⟨⟨z, hz, hc⟩, hs, hb⟩ := he
  exact ⟨i, z, i.bytes, hi, hz, hs, rfl, hc, hb⟩⟩
theorem size_act (w : World) : (Go.sizeOf 79).run Tryz.prog w = .ok 6 w := by
  have : (Tryz.prog.info? 79).map (·.size) = some 6 := by kernel_rfl
  obtain ⟨i, hi, hs⟩ := Option.map_eq_some_iff.1 this
  rw [← hs]
  simp [Go.sizeOf, typeInfo, hi]
theorem load_act {w : World} {x : Addr} {z : Ak} (h : ∀ j v, (akl z)[j]? = some v → w.cell? (x.add j) = some v) : (Instr.loadAt 79 (.pointer (some x))).run Tryz.prog w = .ok (akv z) w := by
  have hl : (loadCells x 6).run Tryz.prog w = .ok (akl z).toArray w := run_loadCells_list (P := Tryz.prog) w x (akl z) h
  have hg : (isAgg 79).run Tryz.prog w = .ok true w := by
    unfold isAgg
    simp only [Sem.run_bind, run_underlying Tryz.underlying79, Result.andThen_ok, Sem.run_pure]
  simp only [Instr.loadAt, Instr.sureAddr, loadVar, Sem.run_bind, Sem.run_pure, Result.andThen_ok, hg, size_act, hl, if_true]
  rfl
theorem at_ld_act {ops : Array Oper} {rest : List Oper} {o : Oper} {a : Act} {w : World} {Q : Exit → Act → World → Prop} (x : Operand) (y : Addr) (z : Ak) (hr : ∀ j v, (akl z)[j]? = some v → w.cell? (y.add j) = some v) (hgd : o.guard = none) (ho : o.op = .load 79 x) (hx : a.eval x = .pointer (some y))
    (h : wpList Tryz.prog ops Q rest (a.put o.dst (akv z)) w) : wpList Tryz.prog ops Q (o :: rest) a w :=
  wpList_plain hgd fun _ hK => by
    unfold Oper.wp execOp
    simp only [ho, hx, Sem.run_bind, Sem.run_pure, Result.andThen_ok, load_act hr]
    exact hK _ _ h
theorem size_evt (w : World) : (Go.sizeOf 51).run Tryz.prog w = .ok 19 w := by
  have : (Tryz.prog.info? 51).map (·.size) = some 19 := by kernel_rfl
  obtain ⟨i, hi, hs⟩ := Option.map_eq_some_iff.1 this
  rw [← hs]
  simp [Go.sizeOf, typeInfo, hi]
theorem load_evt {w : World} {x : Addr} {z : Evt} (h : ∀ j v, (evl z)[j]? = some v → w.cell? (x.add j) = some v) : (Instr.loadAt 51 (.pointer (some x))).run Tryz.prog w = .ok (evv z) w := by
  have hl : (loadCells x 19).run Tryz.prog w = .ok (evl z).toArray w := run_loadCells_list (P := Tryz.prog) w x (evl z) h
  have hg : (isAgg 51).run Tryz.prog w = .ok true w := by
    unfold isAgg
    simp only [Sem.run_bind, run_underlying Tryz.underlying51, Result.andThen_ok, Sem.run_pure]
  simp only [Instr.loadAt, Instr.sureAddr, loadVar, Sem.run_bind, Sem.run_pure, Result.andThen_ok, hg, size_evt, hl, if_true]
  rfl
theorem at_ld_evt {ops : Array Oper} {rest : List Oper} {o : Oper} {a : Act} {w : World} {Q : Exit → Act → World → Prop} (x : Operand) (y : Addr) (z : Evt) (hr : ∀ j v, (evl z)[j]? = some v → w.cell? (y.add j) = some v) (hgd : o.guard = none) (ho : o.op = .load 51 x) (hx : a.eval x = .pointer (some y))
    (h : wpList Tryz.prog ops Q rest (a.put o.dst (evv z)) w) : wpList Tryz.prog ops Q (o :: rest) a w :=
  wpList_plain hgd fun _ hK => by
    unfold Oper.wp execOp
    simp only [ho, hx, Sem.run_bind, Sem.run_pure, Result.andThen_ok, load_evt hr]
    exact hK _ _ h
theorem run_sla (A : Option Addr) (n c i : Nat) (hi : i ≤ c) (W : World) : (Instr.slice 24 (.slice A n c) none (some (.int .i64 (i : Int))) none).run Tryz.prog W = .ok (.slice A i c) W := by
  have h1 : (i : Int) ≤ c := by omega
  have h2 : A.map (·.add (0 * 6)) = A := by cases A <;> simp [Addr.add]
  unfold Instr.slice Instr.sliceBounds Instr.sliceBound
  simp only [Sem.run_bind, run_underlying Tryz.underlying24, Result.andThen_ok, Sem.run_pure, size_act, asIntOf]
  try simp only [Option.isSome_none, Bool.false_eq_true, if_false, Sem.run_bind, Sem.run_pure, Result.andThen_ok]
  rw [if_pos ⟨by omega, h1⟩]
  simp only [Sem.run_bind, Sem.run_pure, Result.andThen_ok, h2, ite_self, Nat.sub_zero, Int.toNat_natCast]
theorem at_storeAk {ops : Array Oper} {rest : List Oper} {o : Oper} {a : Act} {w : World} {Q : Exit → Act → World → Prop} (x y : Operand) (b : Nat) (e e' : Ak) (H : Cx w b (akl e)) (hgd : o.guard = none) (ho : o.op = .store 79 x y) (hx : a.eval x = .pointer (some ⟨b, 0, none⟩)) (hy : a.eval y = akv e')
    (h : ∀ w', Hid (Cx w' b (akl e')) → Hid (∀ B, B ≤ b → Below B w w') → Hid (∀ k, k ≠ b → w'.heap[k]? = w.heap[k]?) → wpList Tryz.prog ops Q rest (a.put o.dst undef) w') : wpList Tryz.prog ops Q (o :: rest) a w :=
  at_put 79 x y b [] (akl e) (akl e') [] (by simpa using H) rfl (by kernel_rfl) (by simp [akl, Value.oneCell']) hgd ho hx hy (fun w' h1 h2 h3 => h w' (Lib.hid (by simpa using h1.out)) h2 h3)
theorem cx_grown {w w' : World} {b : Nat} {row : Option Nat} {u : Value} {L : List Value} (h : Cx w b (u :: L)) (hg : w.grownBy w' row) (hne : row ≠ some b) : Cx w' b (u :: L) := by
  have hb := hg.block b h.lt (fun e => hne e.symm)
  have e : ∀ j, w'.cell? ⟨b, j, none⟩ = w.cell? ⟨b, j, none⟩ := fun j => by unfold World.cell?; simp only [hb]
  have f : ∀ j, w'.frozen? ⟨b, j, none⟩ = w.frozen? ⟨b, j, none⟩ := fun j => by unfold World.frozen?; simp only [hb]
  exact ⟨fun j v hv => by rw [e]; exact h.1 j v hv, fun j hj => by rw [e, f]; exact h.2 j hj⟩
theorem evr_box (W : World) (p : Evt) : Rw eEv (W.alloc (Evx p)) (some ⟨W.heap.size, 0, none⟩) [p] := by
  refine ⟨by simp, fun q x hq => ⟨_, rfl, fun j v hv => ?_⟩⟩
  match q, hq with
  | 0, hq =>
    obtain rfl : p = x := by simpa using hq
    have := (ev_box W p).key j v hv
    by_cases hj : j = 0
    · subst hj
      simpa [Addr.add, eEv] using this
    · simpa [Addr.add, eEv, hj] using this
  | q + 1, hq => simp at hq
theorem at_loadAk {ops : Array Oper} {rest : List Oper} {o : Oper} {a : Act} {w : World} {Q : Exit → Act → World → Prop} (x : Operand) (b : Nat) (e : Ak) (H : Cx w b (akl e)) (hgd : o.guard = none) (ho : o.op = .load 79 x) (hx : a.eval x = .pointer (some ⟨b, 0, none⟩))
    (h : wpList Tryz.prog ops Q rest (a.put o.dst (akv e)) w) : wpList Tryz.prog ops Q (o :: rest) a w :=
  at_get 79 _ x b [] (akl e) [] (by simpa using H) Tryz.underlying79 rfl (by kernel_rfl) hgd ho hx h
theorem nmA_0 {y : Ak} (h : y.Ok) (h0 : (evA y).k = 0) : (nmA y : Int) = y.t % 12 := by unfold nmA; rw [if_pos h0]; omega
theorem nmA_n {y : Ak} (h0 : (evA y).k ≠ 0) : nmA y = 0 := by unfold nmA; rw [if_neg h0]
theorem at_loadEvL {ops : Array Oper} {rest : List Oper} {o : Oper} {a : Act} {w : World} {Q : Exit → Act → World → Prop} (x : Operand) (b : Nat) {ek ea p0 p1 p2 p3 p4 p5 eb en sf s0 s1 s2 s3 s4 s5 st : Int} {eo : ByteArray} (H : Cx w b (evl (⟨ek, ⟨ea, eo, p0, p1, p2, p3, p4, p5⟩, eb, en, ⟨sf, s0, s1, s2, s3, s4, s5, st⟩⟩ : Evt))) (hgd : o.guard = none) (ho : o.op = .load 51 x) (hx : a.eval x = .pointer (some ⟨b, 0, none⟩))
    (h : wpList Tryz.prog ops Q rest (a.put o.dst (.agg #[.int .i64 ek, .int .u32 ea, .string eo, .int .u8 p0, .int .u8 p1, .int .u8 p2, .int .u8 p3, .int .u8 p4, .int .u8 p5, .int .u32 eb, .int .i64 en, .int .i64 sf, .int .u8 s0, .int .u8 s1, .int .u8 s2, .int .u8 s3, .int .u8 s4, .int .u8 s5, .int .i64 st])) w) : wpList Tryz.prog ops Q (o :: rest) a w :=
  at_loadEv x b (⟨ek, ⟨ea, eo, p0, p1, p2, p3, p4, p5⟩, eb, en, ⟨sf, s0, s1, s2, s3, s4, s5, st⟩⟩ : Evt) H hgd ho hx h
def EvsPost (w : World) (es : List Evt) (e : Ending) (w' : World) : Prop := ∃ A cap, e = .returned (.slice A es.length cap) ∧ Rw eEv w' A es ∧ es.length ≤ cap ∧ Below w.heap.size w w'
set_option maxRecDepth 100000 in
set_option maxHeartbeats 8000000 in
theorem events_any (A : Option Addr) (ys : List Ak) (cap : Nat) (w : World) (hr : Rw eAk w A ys) (hcap : ys.length ≤ cap) (hy : ∀ x ∈ ys, x.Ok) : Calls Tryz.prog 13 #[.slice A ys.length cap] w (EvsPost w (evsL (ys.take 60))) := by
  have hln := hr.1
  obtain ⟨zs, hzs⟩ : ∃ zs, ys.take 60 = zs := ⟨_, rfl⟩
  have HOK := Lib.hid (show ∀ y ∈ zs, y.Ok from fun y h => hy y (List.mem_of_mem_take (hzs ▸ h)))
  have hzn : zs.length = min 60 ys.length := by rw [← hzs, List.length_take]
  have RZ := Lib.hid (show Rw eAk w A zs from hzs ▸ hr.take 60)
  rw [hzs]
  clear hr hy hzs
  obtain ⟨Ly, hLy⟩ : ∃ n, ys.length = n := ⟨_, rfl⟩
  rw [hLy] at hln hcap hzn ⊢
  clear hLy
  obtain ⟨N, hN⟩ : ∃ n, zs.length = n := ⟨_, rfl⟩
  have HN := Lib.hid hN
  rw [hN] at hzn
  clear hN
  have hmin : min (Ly : Int) 60 = (N : Int) := by omega
  have hNc : N ≤ cap := by omega
  have hN60 : N ≤ 60 := by omega
  have HSL := run_sla A Ly cap N hNc
  clear hzn
  go_enter Tryz.func13, Tryz.ntmps13
  go_wp2_with fail
  go_loopw [3, 14] (fun v i wr => ∃ k : Nat, i = .int .i64 k ∧ k ≤ N ∧ Hid (wr.ownsRow w.heap.size 51 19 v (evsL (zs.take k)).length (eEv.cs (evsL (zs.take k))) ∧ (evsL (zs.take k)).length ≤ 12 * k ∧ Below w.heap.size w wr)) (fun _ i _ => N - (intOf i).toNat)
  case atStart => exact ⟨0, rfl, by omega, Lib.hid ⟨World.ownsRow_nil _ _ _ _, by simp [evsL], Below.refl _ _⟩⟩
  case round =>
    obtain ⟨k, rfl, hk, HR⟩ := hrel
    by_cases hkN : k < N
    · obtain ⟨z, hz⟩ : ∃ z, zs[k]? = some z := ⟨_, List.getElem?_eq_getElem (by rw [HN.out]; exact hkN)⟩
      have hzk := HOK.out z (List.mem_of_getElem? hz)
      obtain ⟨y, rfl⟩ := rw_some RZ.out (by rw [HN.out]; omega)
      obtain ⟨hO, hlen, hB⟩ := HR.out
      have hat := (RZ.out.below hB).at hz
      have HT := Lib.hid (show evsL (zs.take (k + 1)) = evsL (zs.take k) ++ List.replicate (nmA z + 1) (evA z) by rw [List.take_add_one, hz]; exact evsL_snoc _ _)
      obtain ⟨L, hL⟩ : ∃ L, evsL (zs.take k) = L := ⟨_, rfl⟩
      rw [hL] at hO hlen HT
      have HEV := fun W => ev_any z W hzk
      have hnm := nmA_lt z hzk
      have hnm0 := nmA_0 hzk
      have hnmn := @nmA_n z
      have ht0 := hzk.t
      obtain ⟨nm, hn⟩ : ∃ n, nmA z = n := ⟨_, rfl⟩
      obtain ⟨E, hE⟩ : ∃ E, evA z = E := ⟨_, rfl⟩
      rw [hE] at HT HEV hnm0 hnmn
      rw [hn] at HT hnm hnm0 hnmn
      clear hE hn hL hzk hz
      obtain ⟨zq, za, zb, zm, zo, zt⟩ := z
      obtain ⟨ek, ⟨ea, eo, p0, p1, p2, p3, p4, p5⟩, eb, en, ⟨sf, s0, s1, s2, s3, s4, s5, st⟩⟩ := E
      dsimp only at hnm0 hnmn ht0
      have OW := Lib.hid hO
      have BW := Lib.hid hB
      simp only [akv, evv, evl] at HEV
      replace HEV := Lib.hid HEV
      have ZB := Lib.hid (show Cx (wr.alloc (.cells #[.int .u8 0, .int .u8 0, .int .u8 0, .int .u8 0, .int .u8 0, .int .u8 0] 79)) wr.heap.size (akl ⟨0, 0, 0, 0, 0, 0⟩) from cx_box _ _ _ _ rfl)
      have BL0 := Lib.hid (show Below wr.heap.size wr (wr.alloc (.cells #[.int .u8 0, .int .u8 0, .int .u8 0, .int .u8 0, .int .u8 0, .int .u8 0] 79)) from (Below.refl _ _).alloc (Nat.le_refl _) _)
      clear hO hB HR
      go_upto_region 5 with (first | (refine at_ld_act (.tmp 16) (y.add (k * 6)) (⟨zq, za, zb, zm, zo, zt⟩ : Ak) hat rfl rfl rfl ?_) | (refine at_storeAk _ _ wr.heap.size ⟨0, 0, 0, 0, 0, 0⟩ (⟨zq, za, zb, zm, zo, zt⟩ : Ak) ZB.out rfl rfl rfl rfl ?_; intro w1 Z1 hb1 hk1; have BL1 := Lib.hid (BL0.out.trans (hb1.out _ (Nat.le_refl _)))))
      clear hb1 hk1 ZB BL0 hat
      go_wp2_with (refine at_loadAk _ wr.heap.size (⟨zq, za, zb, zm, zo, zt⟩ : Ak) Z1.out rfl rfl rfl ?_)
      refine (HEV.out _).mono ?_
      rintro e w2 ⟨rfl, hb⟩
      have BL2 := Lib.hid (BL1.out.trans (hb.mono BL1.out.size))
      have Z2 := Lib.hid (show Cx w2 wr.heap.size (akl (⟨zq, za, zb, zm, zo, zt⟩ : Ak)) from Cx.below Z1.out hb)
      have hlt : wr.heap.size < w2.heap.size := Z2.out.lt
      have E3 := Lib.hid (show Cx (w2.alloc (Evx ze)) w2.heap.size (evl ze) from cx_box _ _ _ _ rfl)
      have BL3 := Lib.hid (show Below wr.heap.size wr (w2.alloc (Evx ze)) from BL2.out.alloc BL2.out.size _)
      have Z3 := Lib.hid (show Cx (w2.alloc (Evx ze)) wr.heap.size (akl (⟨zq, za, zb, zm, zo, zt⟩ : Ak)) from Cx.below Z2.out ((Below.refl _ _).alloc (Nat.le_refl _) _))
      clear hb HEV Z1 BL1 BL2 Z2
      go_upto_region 6 with (refine at_storeEv _ _ w2.heap.size ze (⟨ek, ⟨ea, eo, p0, p1, p2, p3, p4, p5⟩, eb, en, ⟨sf, s0, s1, s2, s3, s4, s5, st⟩⟩ : Evt) E3.out rfl rfl rfl rfl ?_; intro w3 E4 hb3 hk3)
      have BL4 := Lib.hid (BL3.out.trans (hb3.out _ (by omega)))
      have Z4 := Lib.hid (Z3.out.keep (hb3.out _ (Nat.le_refl _)) hlt)
      have BX := Lib.hid (show Below w3.heap.size w3 (w3.alloc (.cells #[.int .i64 ek, .int .u32 ea, .string eo, .int .u8 p0, .int .u8 p1, .int .u8 p2, .int .u8 p3, .int .u8 p4, .int .u8 p5, .int .u32 eb, .int .i64 en, .int .i64 sf, .int .u8 s0, .int .u8 s1, .int .u8 s2, .int .u8 s3, .int .u8 s4, .int .u8 s5, .int .i64 st] 51)) from (Below.refl _ _).alloc (Nat.le_refl _) _)
      have BL5 := Lib.hid (BL4.out.trans (BX.out.mono BL4.out.size))
      have Z5 := Lib.hid (show Cx (w3.alloc (.cells #[.int .i64 ek, .int .u32 ea, .string eo, .int .u8 p0, .int .u8 p1, .int .u8 p2, .int .u8 p3, .int .u8 p4, .int .u8 p5, .int .u32 eb, .int .i64 en, .int .i64 sf, .int .u8 s0, .int .u8 s1, .int .u8 s2, .int .u8 s3, .int .u8 s4, .int .u8 s5, .int .i64 st] 51)) wr.heap.size (akl (⟨zq, za, zb, zm, zo, zt⟩ : Ak)) from Cx.below Z4.out BX.out)
      have E5 := Lib.hid (show Cx (w3.alloc (.cells #[.int .i64 ek, .int .u32 ea, .string eo, .int .u8 p0, .int .u8 p1, .int .u8 p2, .int .u8 p3, .int .u8 p4, .int .u8 p5, .int .u32 eb, .int .i64 en, .int .i64 sf, .int .u8 s0, .int .u8 s1, .int .u8 s2, .int .u8 s3, .int .u8 s4, .int .u8 s5, .int .i64 st] 51)) w2.heap.size (evl (⟨ek, ⟨ea, eo, p0, p1, p2, p3, p4, p5⟩, eb, en, ⟨sf, s0, s1, s2, s3, s4, s5, st⟩⟩ : Evt)) from Cx.below E4.out BX.out)
      have RX := Lib.hid (show Rw eEv (w3.alloc (.cells #[.int .i64 ek, .int .u32 ea, .string eo, .int .u8 p0, .int .u8 p1, .int .u8 p2, .int .u8 p3, .int .u8 p4, .int .u8 p5, .int .u32 eb, .int .i64 en, .int .i64 sf, .int .u8 s0, .int .u8 s1, .int .u8 s2, .int .u8 s3, .int .u8 s4, .int .u8 s5, .int .i64 st] 51)) (some ⟨w3.heap.size, 0, none⟩) [(⟨ek, ⟨ea, eo, p0, p1, p2, p3, p4, p5⟩, eb, en, ⟨sf, s0, s1, s2, s3, s4, s5, st⟩⟩ : Evt)] from evr_box w3 (⟨ek, ⟨ea, eo, p0, p1, p2, p3, p4, p5⟩, eb, en, ⟨sf, s0, s1, s2, s3, s4, s5, st⟩⟩ : Evt))
      have OW5 := Lib.hid (own_keep OW.out BL5.out)
      have hb6 : w.heap.size ≤ (w3.alloc (.cells #[.int .i64 ek, .int .u32 ea, .string eo, .int .u8 p0, .int .u8 p1, .int .u8 p2, .int .u8 p3, .int .u8 p4, .int .u8 p5, .int .u32 eb, .int .i64 en, .int .i64 sf, .int .u8 s0, .int .u8 s1, .int .u8 s2, .int .u8 s3, .int .u8 s4, .int .u8 s5, .int .i64 st] 51)).heap.size := Nat.le_trans BW.out.size BL5.out.size
      have hl3 : w2.heap.size < (w3.alloc (.cells #[.int .i64 ek, .int .u32 ea, .string eo, .int .u8 p0, .int .u8 p1, .int .u8 p2, .int .u8 p3, .int .u8 p4, .int .u8 p5, .int .u32 eb, .int .i64 en, .int .i64 sf, .int .u8 s0, .int .u8 s1, .int .u8 s2, .int .u8 s3, .int .u8 s4, .int .u8 s5, .int .i64 st] 51)).heap.size := E5.out.lt
      have hll : L.length + 1 ≤ 1000000000000 := by omega
      clear hb3 hk3 BL3 E3 Z3 BL4 Z4 BX
      go_wp2_with (first | (refine at_loadEvL _ w2.heap.size E4.out rfl rfl rfl ?_) | (at_builtin; refine wpList_append_rw2 tEv _ rfl (.tmp 20) (.tmp 22) rfl w.heap.size _ L.length L (by simp [Act.eval, Act.put]) OW5.out _ 1 1 [(⟨ek, ⟨ea, eo, p0, p1, p2, p3, p4, p5⟩, eb, en, ⟨sf, s0, s1, s2, s3, s4, s5, st⟩⟩ : Evt)] (by simp [Act.eval, Act.put]) rfl RX.out hll hb6 ?_))
      intro v7 w7 ho7 hg7 hn7
      have hl4 : w2.heap.size < w3.heap.size + 1 := by simpa using hl3
      have NB := Lib.hid (show v7.ownBlock ≠ some wr.heap.size ∧ v7.ownBlock ≠ some w2.heap.size from by
        refine ⟨fun h => ?_, fun h => ?_⟩
        · rcases hn7 with e | e
          · have := (OW.out.lt _ (e.symm.trans h)).2; omega
          · rw [e] at h; injection h with h; omega
        · rcases hn7 with e | e
          · have := (OW.out.lt _ (e.symm.trans h)).2; omega
          · rw [e] at h; injection h with h; omega)
      have E7 := Lib.hid (cx_grown E5.out hg7 (fun h => by have := (OW.out.lt _ h).2; omega))
      have Z7 := Lib.hid (cx_grown Z5.out hg7 (fun h => by have := (OW.out.lt _ h).2; omega))
      have BW7 := Lib.hid ((BW.out.trans (BL5.out.mono BW.out.size)).grown hg7 hb6 (fun g hg => (OW.out.lt g hg).1))
      have O7 := Lib.hid ho7
      clear ho7 hg7 hn7 OW BW BL5 OW5 RX E5 Z5 hb6 hl3 hl4 hll E4
      generalize wr.heap.size = b5 at *
      generalize w2.heap.size = b6 at *
      go_wp2_with fail
      go_loopw [3, 7] (fun v i wx => ∃ j : Nat, i = .int .i64 j ∧ j ≤ nm ∧ Hid (wx.ownsRow w.heap.size 51 19 v (L.length + (j + 1)) (eEv.cs (L ++ List.replicate (j + 1) (⟨ek, ⟨ea, eo, p0, p1, p2, p3, p4, p5⟩, eb, en, ⟨sf, s0, s1, s2, s3, s4, s5, st⟩⟩ : Evt))) ∧ (v.ownBlock ≠ some b5 ∧ v.ownBlock ≠ some b6) ∧ Cx wx b5 (akl (⟨zq, za, zb, zm, zo, zt⟩ : Ak)) ∧ Cx wx b6 (evl (⟨ek, ⟨ea, eo, p0, p1, p2, p3, p4, p5⟩, eb, en, ⟨sf, s0, s1, s2, s3, s4, s5, st⟩⟩ : Evt)) ∧ Below w.heap.size w wx)) (fun _ i _ => nm - (intOf i).toNat)
      case atStart => exact ⟨0, rfl, by omega, Lib.hid ⟨O7.out, NB.out, Z7.out, E7.out, BW7.out⟩⟩
      case round =>
        obtain ⟨j, rfl, hj, HI⟩ := hrel
        clear O7 NB Z7 E7 BW7
        obtain ⟨hO, hNB, hZ, hE, hB⟩ := HI.out
        have z5 := hZ.key 5 _ rfl
        have e0 := hE.key 0 _ rfl
        dsimp only at z5 e0
        clear HI
        by_cases hk0 : ek = 0
        · subst hk0
          have hnt := hnm0 rfl
          by_cases hj2 : j < nm
          · have hjt : (j : Int) < zt % 12 := by omega
            go_upto_region 10 with fail
            have BX := Lib.hid (show Below wr.heap.size wr (wr.alloc (.cells #[.int .i64 0, .int .u32 ea, .string eo, .int .u8 p0, .int .u8 p1, .int .u8 p2, .int .u8 p3, .int .u8 p4, .int .u8 p5, .int .u32 eb, .int .i64 en, .int .i64 sf, .int .u8 s0, .int .u8 s1, .int .u8 s2, .int .u8 s3, .int .u8 s4, .int .u8 s5, .int .i64 st] 51)) from (Below.refl _ _).alloc (Nat.le_refl _) _)
            have OX := Lib.hid (own_keep hO BX.out)
            have ZX := Lib.hid (Cx.below hZ BX.out)
            have EX := Lib.hid (Cx.below hE BX.out)
            have RX := Lib.hid (show Rw eEv (wr.alloc (.cells #[.int .i64 0, .int .u32 ea, .string eo, .int .u8 p0, .int .u8 p1, .int .u8 p2, .int .u8 p3, .int .u8 p4, .int .u8 p5, .int .u32 eb, .int .i64 en, .int .i64 sf, .int .u8 s0, .int .u8 s1, .int .u8 s2, .int .u8 s3, .int .u8 s4, .int .u8 s5, .int .i64 st] 51)) (some ⟨wr.heap.size, 0, none⟩) [(⟨0, ⟨ea, eo, p0, p1, p2, p3, p4, p5⟩, eb, en, ⟨sf, s0, s1, s2, s3, s4, s5, st⟩⟩ : Evt)] from evr_box wr (⟨0, ⟨ea, eo, p0, p1, p2, p3, p4, p5⟩, eb, en, ⟨sf, s0, s1, s2, s3, s4, s5, st⟩⟩ : Evt))
            have hbx : w.heap.size ≤ (wr.alloc (.cells #[.int .i64 0, .int .u32 ea, .string eo, .int .u8 p0, .int .u8 p1, .int .u8 p2, .int .u8 p3, .int .u8 p4, .int .u8 p5, .int .u32 eb, .int .i64 en, .int .i64 sf, .int .u8 s0, .int .u8 s1, .int .u8 s2, .int .u8 s3, .int .u8 s4, .int .u8 s5, .int .i64 st] 51)).heap.size := Nat.le_trans hB.size BX.out.size
            have hl5 : b5 < wr.heap.size := hZ.lt
            have hl6 : b6 < wr.heap.size := hE.lt
            have BY := Lib.hid (hB.trans (BX.out.mono hB.size))
            have E6 := Lib.hid hE
            have NB := Lib.hid hNB
            have hl7 : L.length + (j + 1) + 1 ≤ 1000000000000 := by omega
            clear hO hNB hZ hE hB z5 e0
            go_wp2_with (first | (refine at_loadEvL _ b6 E6.out rfl rfl rfl ?_) | (at_builtin; refine wpList_append_rw2 tEv _ rfl (.tmp 37) (.tmp 39) rfl w.heap.size _ (L.length + (j + 1)) (L ++ List.replicate (j + 1) (⟨0, ⟨ea, eo, p0, p1, p2, p3, p4, p5⟩, eb, en, ⟨sf, s0, s1, s2, s3, s4, s5, st⟩⟩ : Evt)) (by simp [Act.eval, Act.put]) OX.out _ 1 1 [(⟨0, ⟨ea, eo, p0, p1, p2, p3, p4, p5⟩, eb, en, ⟨sf, s0, s1, s2, s3, s4, s5, st⟩⟩ : Evt)] (by simp [Act.eval, Act.put]) rfl RX.out hl7 hbx ?_))
            intro v9 w9 ho9 hg9 hn9
            have O9 := Lib.hid (show w9.ownsRow w.heap.size 51 19 v9 (L.length + (j + 1 + 1)) (eEv.cs (L ++ List.replicate (j + 1 + 1) (⟨0, ⟨ea, eo, p0, p1, p2, p3, p4, p5⟩, eb, en, ⟨sf, s0, s1, s2, s3, s4, s5, st⟩⟩ : Evt))) from by rw [List.replicate_succ' (n := j + 1)]; exact ho9)
            have NB9 := Lib.hid (show v9.ownBlock ≠ some b5 ∧ v9.ownBlock ≠ some b6 from by
              refine ⟨fun h => ?_, fun h => ?_⟩
              · rcases hn9 with e | e
                · exact NB.out.1 (e.symm.trans h)
                · rw [e] at h; injection h with h; omega
              · rcases hn9 with e | e
                · exact NB.out.2 (e.symm.trans h)
                · rw [e] at h; injection h with h; omega)
            have E9 := Lib.hid (cx_grown EX.out hg9 NB.out.2)
            have Z9 := Lib.hid (cx_grown ZX.out hg9 NB.out.1)
            have B9 := Lib.hid (BY.out.grown hg9 hbx (fun g hg => (OX.out.lt g hg).1))
            clear ho9 hg9 hn9 OX RX EX ZX BX BY hbx E6 NB hl7
            go_wp2_with fail
            go_roundw
            case rel => exact ⟨j + 1, by go_num, by omega, Lib.hid ⟨O9.out, NB9.out, Z9.out, E9.out, B9.out⟩⟩
            case measure => simp [intOf]; omega
          · have hjt : ¬ (j : Int) < zt % 12 := by omega
            obtain rfl : j = nm := by omega
            go_wp2_with fail
            have HN := Lib.hid (show wr.ownsRow w.heap.size 51 19 _ (evsL (zs.take (k + 1))).length (eEv.cs (evsL (zs.take (k + 1)))) ∧ (evsL (zs.take (k + 1))).length ≤ 12 * (k + 1) ∧ Below w.heap.size w wr from by
              rw [HT.out, List.length_append, List.length_replicate]
              exact ⟨hO, by omega, hB⟩)
            go_roundw
            case rel => exact ⟨k + 1, by go_num, by omega, HN⟩
            case measure => simp [intOf]; omega
        · have hkb : (ek == 0) = false := by simpa using hk0
          obtain rfl := hnmn hk0
          obtain rfl : j = 0 := by omega
          by_cases hjt : ((0 : Nat) : Int) < zt % 12
          · have hjt2 : (0 : Int) < zt % 12 := hjt
            go_wp2_with fail
            have HN := Lib.hid (show wr.ownsRow w.heap.size 51 19 _ (evsL (zs.take (k + 1))).length (eEv.cs (evsL (zs.take (k + 1)))) ∧ (evsL (zs.take (k + 1))).length ≤ 12 * (k + 1) ∧ Below w.heap.size w wr from by
              rw [HT.out, List.length_append, List.length_replicate]
              exact ⟨hO, by omega, hB⟩)
            go_roundw
            case rel => exact ⟨k + 1, by go_num, by omega, HN⟩
            case measure => simp [intOf]; omega
          · have hjt2 : ¬ (0 : Int) < zt % 12 := hjt
            go_wp2_with fail
            have HN := Lib.hid (show wr.ownsRow w.heap.size 51 19 _ (evsL (zs.take (k + 1))).length (eEv.cs (evsL (zs.take (k + 1)))) ∧ (evsL (zs.take (k + 1))).length ≤ 12 * (k + 1) ∧ Below w.heap.size w wr from by
              rw [HT.out, List.length_append, List.length_replicate]
              exact ⟨hO, by omega, hB⟩)
            go_roundw
            case rel => exact ⟨k + 1, by go_num, by omega, HN⟩
            case measure => simp [intOf]; omega
    · obtain rfl : k = N := by omega
      obtain ⟨hO, hlen, hB⟩ := HR.out
      rw [List.take_of_length_le (by rw [HN.out]; exact Nat.le_refl _)] at hO hlen
      obtain ⟨A', cap', rfl, h1, h2, h3, h4, h5⟩ := own_rw (E := eEv) hO (by omega)
      go_wp2_with fail
      go_ret
      exact ⟨A', cap', rfl, h4, h1, hB⟩
end Go.Proofs.YtilneflfeegnfaaGreat
namespace Go.Proofs.YtilneflfeegnfaaGreat
open Go.RowKit
theorem mk_Ev : Mk eEv := fun x => ⟨1, _, rfl, u32_no _⟩
def smL (c : Cf) (es : List Evt) : Stt := es.foldl (fun x e => (doL c x e).1) zst
theorem smL_snoc (c : Cf) (es : List Evt) (e : Evt) : smL c (es ++ [e]) = (doL c (smL c es) e).1 := by simp [smL]
theorem smL_in {c : Cf} (hk : Ck c) (es : List Evt) (h : ∀ e ∈ es, e.Ok) : In (smL c es) := by
  unfold smL
  have key : ∀ (es : List Evt) (x : Stt), In x → (∀ e ∈ es, e.Ok) → In (es.foldl (fun x e => (doL c x e).1) x) := by
    intro es
    induction es with
    | nil => intro x h _; exact h
    | cons e r ih => intro x h he; exact ih _ (in_do h hk (he e (by simp))) (fun e' h' => he e' (by simp [h']))
  exact key es zst in_zst h
set_option maxRecDepth 100000 in
set_option maxHeartbeats 8000000 in
theorem some_any (c : Cf) (A : Option Addr) (ys : List Ak) (cap : Nat) (w : World) (hk : Ck c) (hR : Rw eAk w A ys) (hcap : ys.length ≤ cap) (hok : ∀ x ∈ ys, x.Ok) : Calls Tryz.prog 21 #[cfv c, .slice A ys.length cap] w fun e w' => ∃ r, e = .returned (stv (smL c (evsL (ys.take 60))) r) ∧ Lie w' (smL c (evsL (ys.take 60))) r ∧ Below w.heap.size w w' := by
  have RA := Lib.hid hR
  have HK := Lib.hid hk
  have HEV := Lib.hid fun W (h : Rw eAk W A ys) => events_any A ys cap W h hcap hok
  obtain ⟨es, hes⟩ : ∃ es, evsL (ys.take 60) = es := ⟨_, rfl⟩
  have HOK := Lib.hid (show ∀ e ∈ es, e.Ok from hes ▸ evsL_ok _ fun y h => hok y (List.mem_of_mem_take h))
  rw [hes] at HEV ⊢
  clear hes hok hR hk
  obtain ⟨xa, xb, xc, xd, xe, xf, xg, xh, xi⟩ := c
  simp only [cfv]
  have q1 : (w.alloc (.cells #[.int .i64 xa, .int .i64 xb, .int .i64 xc, .int .i64 xd, .int .i64 xe, .int .i64 xf, .int .i64 xg, .int .i64 xh, .int .i64 xi] 27)).heap.size = w.heap.size + 1 := by simp
  have q2 : ((w.alloc (.cells #[.int .i64 xa, .int .i64 xb, .int .i64 xc, .int .i64 xd, .int .i64 xe, .int .i64 xf, .int .i64 xg, .int .i64 xh, .int .i64 xi] 27)).alloc (.cells #[.int .i64 0, .int .i64 0, .slice none 0 0, .slice none 0 0, .slice none 0 0, .slice none 0 0, .slice none 0 0] 35)).heap.size = w.heap.size + 1 + 1 := by simp
  have C4 := Lib.hid (show Cm (((w.alloc (.cells #[.int .i64 xa, .int .i64 xb, .int .i64 xc, .int .i64 xd, .int .i64 xe, .int .i64 xf, .int .i64 xg, .int .i64 xh, .int .i64 xi] 27)).alloc (.cells #[.int .i64 0, .int .i64 0, .slice none 0 0, .slice none 0 0, .slice none 0 0, .slice none 0 0, .slice none 0 0] 35)).alloc (.cells #[.int .i64 0, .int .i64 0, .slice none 0 0, .slice none 0 0, .slice none 0 0, .slice none 0 0, .slice none 0 0] 35)) w.heap.size ⟨xa, xb, xc, xd, xe, xf, xg, xh, xi⟩ from (cm_box w ⟨xa, xb, xc, xd, xe, xf, xg, xh, xi⟩).below ((((Below.refl (w.alloc (.cells #[.int .i64 xa, .int .i64 xb, .int .i64 xc, .int .i64 xd, .int .i64 xe, .int .i64 xf, .int .i64 xg, .int .i64 xh, .int .i64 xi] 27)).heap.size (w.alloc (.cells #[.int .i64 xa, .int .i64 xb, .int .i64 xc, .int .i64 xd, .int .i64 xe, .int .i64 xf, .int .i64 xg, .int .i64 xh, .int .i64 xi] 27)))).alloc (Nat.le_refl _) (.cells #[.int .i64 0, .int .i64 0, .slice none 0 0, .slice none 0 0, .slice none 0 0, .slice none 0 0, .slice none 0 0] 35)).alloc (by simp) (.cells #[.int .i64 0, .int .i64 0, .slice none 0 0, .slice none 0 0, .slice none 0 0, .slice none 0 0, .slice none 0 0] 35)))
  have B4 := Lib.hid (show Below w.heap.size w (((w.alloc (.cells #[.int .i64 xa, .int .i64 xb, .int .i64 xc, .int .i64 xd, .int .i64 xe, .int .i64 xf, .int .i64 xg, .int .i64 xh, .int .i64 xi] 27)).alloc (.cells #[.int .i64 0, .int .i64 0, .slice none 0 0, .slice none 0 0, .slice none 0 0, .slice none 0 0, .slice none 0 0] 35)).alloc (.cells #[.int .i64 0, .int .i64 0, .slice none 0 0, .slice none 0 0, .slice none 0 0, .slice none 0 0, .slice none 0 0] 35)) from (((Below.refl _ w).alloc (Nat.le_refl _) _).alloc (by simp) _).alloc (by simp <;> omega) _)
  have Y4 := Lib.hid (show Sb (((w.alloc (.cells #[.int .i64 xa, .int .i64 xb, .int .i64 xc, .int .i64 xd, .int .i64 xe, .int .i64 xf, .int .i64 xg, .int .i64 xh, .int .i64 xi] 27)).alloc (.cells #[.int .i64 0, .int .i64 0, .slice none 0 0, .slice none 0 0, .slice none 0 0, .slice none 0 0, .slice none 0 0] 35)).alloc (.cells #[.int .i64 0, .int .i64 0, .slice none 0 0, .slice none 0 0, .slice none 0 0, .slice none 0 0, .slice none 0 0] 35)) (w.alloc (.cells #[.int .i64 xa, .int .i64 xb, .int .i64 xc, .int .i64 xd, .int .i64 xe, .int .i64 xf, .int .i64 xg, .int .i64 xh, .int .i64 xi] 27)).heap.size (stl zst zrw) from (sb_box (w.alloc (.cells #[.int .i64 xa, .int .i64 xb, .int .i64 xc, .int .i64 xd, .int .i64 xe, .int .i64 xf, .int .i64 xg, .int .i64 xh, .int .i64 xi] 27)) zst zrw).below ((Below.refl _ _).alloc (Nat.le_refl _) _))
  have Z4 := Lib.hid (show Sb (((w.alloc (.cells #[.int .i64 xa, .int .i64 xb, .int .i64 xc, .int .i64 xd, .int .i64 xe, .int .i64 xf, .int .i64 xg, .int .i64 xh, .int .i64 xi] 27)).alloc (.cells #[.int .i64 0, .int .i64 0, .slice none 0 0, .slice none 0 0, .slice none 0 0, .slice none 0 0, .slice none 0 0] 35)).alloc (.cells #[.int .i64 0, .int .i64 0, .slice none 0 0, .slice none 0 0, .slice none 0 0, .slice none 0 0, .slice none 0 0] 35)) ((w.alloc (.cells #[.int .i64 xa, .int .i64 xb, .int .i64 xc, .int .i64 xd, .int .i64 xe, .int .i64 xf, .int .i64 xg, .int .i64 xh, .int .i64 xi] 27)).alloc (.cells #[.int .i64 0, .int .i64 0, .slice none 0 0, .slice none 0 0, .slice none 0 0, .slice none 0 0, .slice none 0 0] 35)).heap.size (stl zst zrw) from sb_box _ zst zrw)
  rw [q1] at Y4
  rw [q2] at Z4
  clear q1 q2
  go_enter Tryz.func21, Tryz.ntmps21
  go_upto_region 2 with fail
  change Code.wp _ _ _ _ (((w.alloc (.cells #[.int .i64 xa, .int .i64 xb, .int .i64 xc, .int .i64 xd, .int .i64 xe, .int .i64 xf, .int .i64 xg, .int .i64 xh, .int .i64 xi] 27)).alloc (.cells #[.int .i64 0, .int .i64 0, .slice none 0 0, .slice none 0 0, .slice none 0 0, .slice none 0 0, .slice none 0 0] 35)).alloc (.cells #[.int .i64 0, .int .i64 0, .slice none 0 0, .slice none 0 0, .slice none 0 0, .slice none 0 0, .slice none 0 0] 35))
  generalize ((w.alloc (.cells #[.int .i64 xa, .int .i64 xb, .int .i64 xc, .int .i64 xd, .int .i64 xe, .int .i64 xf, .int .i64 xg, .int .i64 xh, .int .i64 xi] 27)).alloc (.cells #[.int .i64 0, .int .i64 0, .slice none 0 0, .slice none 0 0, .slice none 0 0, .slice none 0 0, .slice none 0 0] 35)).alloc (.cells #[.int .i64 0, .int .i64 0, .slice none 0 0, .slice none 0 0, .slice none 0 0, .slice none 0 0, .slice none 0 0] 35) = W3 at *
  have RA3 := Lib.hid (RA.out.below B4.out)
  go_wp2_with fail
  refine (HEV.out _ RA3.out).mono ?_
  rintro e w4 ⟨EA, ec, rfl, hE, hec, hb⟩
  have HH := Lib.hid (show ∃ r, Sb w4 (w.heap.size + 1 + 1) (stl (smL ⟨xa, xb, xc, xd, xe, xf, xg, xh, xi⟩ (es.take 0)) r) ∧ Sb w4 (w.heap.size + 1) (stl zst zrw) ∧ Lie w4 (smL ⟨xa, xb, xc, xd, xe, xf, xg, xh, xi⟩ (es.take 0)) r ∧ Cm w4 w.heap.size ⟨xa, xb, xc, xd, xe, xf, xg, xh, xi⟩ ∧ Below w.heap.size w w4 ∧ In (smL ⟨xa, xb, xc, xd, xe, xf, xg, xh, xi⟩ (es.take 0)) ∧ Rw eEv w4 EA es from ⟨zrw, Z4.out.below hb, Y4.out.below hb, lie_zero _, C4.out.below hb, bthen B4.out hb B4.out.size, in_zst, hE⟩)
  have hln := hE.1
  clear C4 B4 Y4 Z4 RA RA3 HEV hE hb
  obtain ⟨N, hN⟩ : ∃ n, es.length = n := ⟨_, rfl⟩
  have HN := Lib.hid hN
  rw [hN] at hec hln ⊢
  clear hN
  go_wp2_with fail
  go_loopw [11] (fun i wr => ∃ k : Nat, i = .int .i64 k ∧ k ≤ N ∧ Hid (∃ r, Sb wr (w.heap.size + 1 + 1) (stl (smL ⟨xa, xb, xc, xd, xe, xf, xg, xh, xi⟩ (es.take k)) r) ∧ Sb wr (w.heap.size + 1) (stl zst zrw) ∧ Lie wr (smL ⟨xa, xb, xc, xd, xe, xf, xg, xh, xi⟩ (es.take k)) r ∧ Cm wr w.heap.size ⟨xa, xb, xc, xd, xe, xf, xg, xh, xi⟩ ∧ Below w.heap.size w wr ∧ In (smL ⟨xa, xb, xc, xd, xe, xf, xg, xh, xi⟩ (es.take k)) ∧ Rw eEv wr EA es)) (fun i _ => N - (intOf i).toNat)
  case atStart => exact ⟨0, rfl, by omega, HH⟩
  case round =>
    obtain ⟨k, rfl, hk, HR⟩ := hrel
    clear HH
    obtain ⟨r6, hS, hY, hL, hC, hB, hI, hE⟩ := HR.out
    by_cases hkN : k < N
    · obtain ⟨ev, hev⟩ : ∃ e, es[k]? = some e := ⟨_, List.getElem?_eq_getElem (by rw [HN.out]; exact hkN)⟩
      have hevk := HOK.out ev (List.mem_of_getElem? hev)
      obtain ⟨y, rfl⟩ := rw_some hE (by rw [HN.out]; omega)
      have hat := hE.at hev
      have HT := Lib.hid (show smL ⟨xa, xb, xc, xd, xe, xf, xg, xh, xi⟩ (es.take (k + 1)) = (doL ⟨xa, xb, xc, xd, xe, xf, xg, xh, xi⟩ (smL ⟨xa, xb, xc, xd, xe, xf, xg, xh, xi⟩ (es.take k)) ev).1 by rw [List.take_add_one, hev]; exact smL_snoc _ _ _)
      obtain ⟨x, hx⟩ : ∃ x, smL ⟨xa, xb, xc, xd, xe, xf, xg, xh, xi⟩ (es.take k) = x := ⟨_, rfl⟩
      rw [hx] at hS hL hI HT
      have hID := in_do hI HK.out hevk
      obtain ⟨X, hX⟩ : ∃ X, (doL ⟨xa, xb, xc, xd, xe, xf, xg, xh, xi⟩ x ev).1 = X := ⟨_, rfl⟩
      have DO := Lib.hid fun W h => doS ⟨xa, xb, xc, xd, xe, xf, xg, xh, xi⟩ x r6 ev W h hI HK.out hevk X _ hX rfl
      rw [hX] at HT hID
      obtain ⟨q, hq⟩ : ∃ q, (doL ⟨xa, xb, xc, xd, xe, xf, xg, xh, xi⟩ x ev).2.2 = q := ⟨_, rfl⟩
      rw [hq] at DO
      clear hx hX hq hev hevk
      have ZB0 := Lib.hid (show Cx (wr.alloc (.cells #[.int .i64 0, .int .u32 0, .string ⟨#[]⟩, .int .u8 0, .int .u8 0, .int .u8 0, .int .u8 0, .int .u8 0, .int .u8 0, .int .u32 0, .int .i64 0, .int .i64 0, .int .u8 0, .int .u8 0, .int .u8 0, .int .u8 0, .int .u8 0, .int .u8 0, .int .i64 0] 51)) wr.heap.size (evl ze) from cx_box _ _ _ _ rfl)
      have BL0 := Lib.hid (show Below wr.heap.size wr (wr.alloc (.cells #[.int .i64 0, .int .u32 0, .string ⟨#[]⟩, .int .u8 0, .int .u8 0, .int .u8 0, .int .u8 0, .int .u8 0, .int .u8 0, .int .u32 0, .int .i64 0, .int .i64 0, .int .u8 0, .int .u8 0, .int .u8 0, .int .u8 0, .int .u8 0, .int .u8 0, .int .i64 0] 51)) from (Below.refl _ _).alloc (Nat.le_refl _) _)
      go_upto_region 5 with (first | (refine at_ld_evt (.tmp 13) (y.add (k * 19)) ev hat rfl rfl rfl ?_) | (refine at_storeEv _ _ wr.heap.size ze ev ZB0.out rfl rfl rfl rfl ?_; intro w5 Z5 hb5 hk5; have BL5 := Lib.hid (BL0.out.trans (hb5.out _ (Nat.le_refl _)))))
      have S6 := Lib.hid (hS.below BL5.out)
      have Y6 := Lib.hid (hY.below BL5.out)
      have R6 := Lib.hid (hL.below BL5.out)
      have C6 := Lib.hid (hC.below BL5.out)
      have B6 := Lib.hid (bthen hB BL5.out hB.size)
      have E6 := Lib.hid (hE.below BL5.out)
      have HI7 := Lib.hid hID
      clear hS hY hL hC hB hE hI HR hat ZB0 BL0 hb5 hk5 BL5 hID
      have k0 := C6.out.c0
      have k1 := C6.out.c1
      have k2 := C6.out.c2
      have k3 := C6.out.c3
      have k4 := C6.out.c4
      have k5 := C6.out.c5
      have k6 := C6.out.c6
      have k7 := C6.out.c7
      have k8 := C6.out.c8
      (try dsimp only at k0 k1 k2 k3 k4 k5 k6 k7 k8)
      go_wp2_with (first | (refine at_loadSt _ (w.heap.size + 1 + 1) _ S6.out.cx rfl rfl rfl rfl ?_) | (refine at_loadEv _ wr.heap.size ev Z5.out rfl rfl rfl ?_))
      refine (DO.out _ R6.out).mono ?_
      rintro e w7 ⟨r7, v7, rfl, hL, hb⟩
      clear k0 k1 k2 k3 k4 k5 k6 k7 k8
      have B7 := Lib.hid (bthen B6.out hb B6.out.size)
      have C7 := Lib.hid (C6.out.below hb)
      have S7 := Lib.hid (S6.out.below hb)
      have Y7 := Lib.hid (Y6.out.below hb)
      have E7 := Lib.hid (E6.out.below hb)
      have R7 := Lib.hid hL
      clear hb hL B6 C6 S6 Y6 R6 E6 Z5 DO
      go_wp2_with (refine at_wholeSt _ _ (w.heap.size + 1 + 1) _ (stl X r7) S7.out rfl (stl_ns _ _) (stl_one _ _) rfl rfl rfl rfl ?_; intro w8 S8 hb8 hk8)
      have HN8 := Lib.hid (show ∃ r, Sb w8 (w.heap.size + 1 + 1) (stl (smL ⟨xa, xb, xc, xd, xe, xf, xg, xh, xi⟩ (es.take (k + 1))) r) ∧ Sb w8 (w.heap.size + 1) (stl zst zrw) ∧ Lie w8 (smL ⟨xa, xb, xc, xd, xe, xf, xg, xh, xi⟩ (es.take (k + 1))) r ∧ Cm w8 w.heap.size ⟨xa, xb, xc, xd, xe, xf, xg, xh, xi⟩ ∧ Below w.heap.size w w8 ∧ In (smL ⟨xa, xb, xc, xd, xe, xf, xg, xh, xi⟩ (es.take (k + 1))) ∧ Rw eEv w8 (some y) es from by rw [HT.out]; exact ⟨r7, S8.out, Y7.out.other hk8.out (by omega), R7.out.apart S7.out.bs hk8.out, cm_ob C7.out (Ob.put hb8.out hk8.out) (by omega), B7.out.trans (hb8.out _ (by omega)), HI7.out, rw_apart mk_Ev E7.out S7.out.bs hk8.out⟩)
      go_roundw
      case rel => exact ⟨k + 1, by go_num, by omega, HN8⟩
      case measure => simp [intOf]; omega
    · obtain rfl : k = N := by omega
      rw [List.take_of_length_le (by rw [HN.out]; exact Nat.le_refl _)] at hS hL hI
      obtain ⟨X, hX⟩ : ∃ X, smL ⟨xa, xb, xc, xd, xe, xf, xg, xh, xi⟩ es = X := ⟨_, rfl⟩
      have HX := Lib.hid hX
      rw [hX] at hS hL
      have S6 := Lib.hid hS
      have Y6 := Lib.hid hY
      have R6 := Lib.hid hL
      have B6 := Lib.hid hB
      clear hS hY hL hC hB hE hI HR hX
      go_wp2_with (first | (refine at_loadSt _ (w.heap.size + 1 + 1) _ S6.out.cx rfl rfl rfl rfl ?_) | (refine at_wholeSt _ _ (w.heap.size + 1) _ (stl X r6) Y6.out rfl (stl_ns _ _) (stl_one _ _) rfl rfl rfl rfl ?_; intro w8 S8 hb8 hk8))
      refine bodyPost_ret (results_cell rfl _ _ _ _ rfl (loadvSt S8.out.cx rfl)) rfl ?_
      rw [HX.out]
      exact ⟨r6, rfl, R6.out.apart Y6.out.bs hk8.out, B6.out.trans (hb8.out _ (by omega))⟩
end Go.Proofs.YtilneflfeegnfaaGreat
