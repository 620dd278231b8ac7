/-
  CasesRight's walk: rows are right, if the document says so. Conditions: what comes in lies in memory, and numbers have their bits.
-/
import Derived.BigGuard
import Derived.Test.YtmaaniokfpkbjaaCho
import Derived.Test.YtmaaniokfpkbjaaQTail
set_option linter.unusedSimpArgs false
set_option linter.unusedVariables false
namespace Go.Proofs.Ytmaaniokfpkbjaa
open Go.RowKit

set_option maxRecDepth 100000 in
set_option maxHeartbeats 8000000 in
theorem casesRight_walk (A : Option Addr) (raw : List Ca) (cr : Nat) (x : Hc) (B : Option Addr) (ys : List Ac) (cy : Nat) (n : Int) (z : Ca) (w : World) (h : Rw eA w A raw) (hcr : raw.length ≤ cr) (hur : Au raw) (hx : x.Ok) (hB : Rw eC w B ys) (hcy : ys.length ≤ cy) (hok : ∀ y ∈ ys, y.Ok) (hn0 : 0 ≤ n) (hn1 : n < 256) (hz0 : 0 ≤ z.a) (hz1 : z.a < 4294967296) :
    Calls Try.prog 4 #[.slice A raw.length cr, hv x, .slice B ys.length cy, .int .u8 n, cav z] w fun e w' => e = .returned (.bool true) ∧ Below w.heap.size w w' := by
  obtain ⟨an, rfl⟩ := Int.eq_ofNat_of_zero_le hn0
  have B0 := Lib.hid (show Below w.heap.size w ((w.alloc (Hcx x)).alloc (Cax z)) from ((Below.refl _ w).alloc (Nat.le_refl _) _).alloc (by simp) _)
  have M0 := Lib.hid (show Hm ((w.alloc (Hcx x)).alloc (Cax z)) w.heap.size x from (show Hm (w.alloc (Hcx x)) w.heap.size x from hc_box w x).below ((Below.refl _ _).alloc (Nat.le_refl _) _))
  have Z0 := Lib.hid (show Qb ((w.alloc (Hcx x)).alloc (Cax z)) (w.heap.size + 1) z by have := qb_box (w.alloc (Hcx x)) z; rw [World.size_alloc] at this; exact this)
  have HAW := Lib.hid fun (W W' : World) (g : Nat) (hR : Rw eA W A raw) (hg : W.grownBy W' (some g)) (hB : w.heap.size ≤ g) => hR.grownN hg (rw_lt h) hB
  have RA0 := Lib.hid (h.below B0.out)
  have RB0 := Lib.hid (hB.below B0.out)
  have HCH := Lib.hid fun W => choice_any x W hx
  have HSO := Lib.hid fun W (hR : Rw eC W B ys) => some_any (ch x) B ys cy W hR hok hcy
  obtain ⟨⟨v1, -, v2⟩, v3⟩ := smO_ok (ch x).i (ch x).h (ys.take 80) (by rw [List.length_take]; omega)
  have hr100 : (raw.take 100).length = min 100 raw.length := List.length_take
  have HRR := Lib.hid fun W (hR : Rw eA W A raw) => right_row A (raw.take 100) cr W (hR.take 100) (by omega)
  have HLR := Lib.hid fun W (hR : Rw eA W A raw) => lright_any A (raw.take 100) cr W (hR.take 100) (by omega) (fun z hz => hur z (List.mem_of_mem_take hz)) (by omega)
  obtain ⟨rr, hrr⟩ : ∃ rr, rgB (raw.take 100) = rr := ⟨_, rfl⟩
  rw [hrr, hr100] at HLR HRR
  obtain ⟨N, hN⟩ : ∃ N, min 100 raw.length = N := ⟨_, rfl⟩
  rw [hN] at HLR HRR
  have hmin : min (raw.length : Int) 100 = (N : Int) := by omega
  have hNc : N ≤ cr := by omega
  have hNc' : (N : Int) ≤ cr := by omega
  have HS29 := run_sl29 A raw.length cr N hNc
  clear hr100 hN
  have hrs : (rr == rr) = true := by simp
  clear hrr h hB hok
  generalize raw.length = Lr at *
  generalize ys.length = Ly at *
  generalize smO (ch x).i (ch x).h (ys.take 80) = s at *
  obtain ⟨ss, now⟩ := s
  dsimp only at v1 v2 v3
  have HV := Lib.hid v1
  have hss := v1.r.few
  clear v1 v3
  unfold hv Hcx cav Cax at *
  go_enter Try.func4, Try.ntmps4
  go_wp2_with fail
  generalize (w.alloc (.cells #[.int .u8 x.a, .int .u8 x.b, .int .u8 x.c, .int .u8 x.d, .int .u8 x.e, .int .u8 x.f, .int .u8 x.g, .int .u8 x.h, .int .u8 x.i] 23)).alloc (.cells #[.int .u32 z.a, .int .i64 z.r, .int .i64 z.d, .int .i64 z.g] 37) = W0 at *
  refine (awake_any W0).mono ?_
  rintro e W1 ⟨rfl, hb⟩
  have B1 := Lib.hid (B0.out.trans (hb.mono B0.out.size))
  have M1 := Lib.hid (M0.out.below hb)
  have Z1 := Lib.hid (Z0.out.below hb)
  have RA1 := Lib.hid (RA0.out.below hb)
  have RB1 := Lib.hid (RB0.out.below hb)
  clear hb M0 Z0 RA0 RB0
  go_wp2_with (refine at_load23 (.tmp 6) rfl rfl _ x rfl M1.out ?_)
  refine (HCH.out W1).mono ?_
  rintro e W2 ⟨rfl, hb⟩
  have B2 := Lib.hid (B1.out.trans (hb.mono B1.out.size))
  have Z2 := Lib.hid (Z1.out.below hb)
  have RA2 := Lib.hid (RA1.out.below hb)
  have RB2 := Lib.hid (RB1.out.below hb)
  clear hb Z1 RA1 RB1 M1
  go_wp2_with fail
  refine (HSO.out W2 RB2.out).mono ?_
  rintro e W3 ⟨As, cs, rfl, hcs, hRs, hb⟩
  dsimp only at hcs hRs
  have B3 := Lib.hid (B2.out.trans (hb.mono B2.out.size))
  have Z3 := Lib.hid (Z2.out.below hb)
  have RA3 := Lib.hid (RA2.out.below hb)
  have RS3 := Lib.hid hRs
  have HCS := Lib.hid hcs
  clear hb Z2 RA2 RB2 hRs hcs
  dsimp only
  have HR1 := Lib.hid (right_row As ss cs W3 RS3.out HCS.out)
  rw [show rgB ss = true from rg_ok HV.out.r] at HR1
  obtain ⟨L, hL⟩ : ∃ L, ss.length = L := ⟨_, rfl⟩
  have HL := Lib.hid hL
  rw [hL] at hss HR1 ⊢
  clear hL
  go_wp2_with fail
  refine HR1.out.mono ?_
  rintro e W4 ⟨rfl, hb⟩
  have B4 := Lib.hid (B3.out.trans (hb.mono B3.out.size))
  have Z4 := Lib.hid (Z3.out.below hb)
  have RA4 := Lib.hid (RA3.out.below hb)
  have RS4 := Lib.hid (RS3.out.below hb)
  clear hb Z3 RA3 RS3 HR1
  have ON4 := Lib.hid (World.ownsRow_nil W4 W4.heap.size 37 4)
  have hlen0 : 0 + L ≤ 1000000000000 := by omega
  go_wp2_with (at_builtin; refine wpList_append_rw tA _ rfl (.const (.slice none 0 0)) (.tmp 31) rfl W4.heap.size (.slice none 0 0) 0 [] (by simp [Act.eval]) ON4.out As L cs ss (by simp [Act.eval, Act.put]) HL.out.symm RS4.out hlen0 (Nat.le_refl _) ?_)
  intro v13 W5 ho13 hg5
  have B5' := Lib.hid (show Below W4.heap.size W4 W5 from (Below.refl _ W4).grown hg5 (Nat.le_refl _) (fun k e => by cases e))
  have B5 := Lib.hid (B4.out.trans (B5'.out.mono B4.out.size))
  have Z5 := Lib.hid (Z4.out.keep B5'.out Z4.out.lt)
  have RA5 := Lib.hid (RA4.out.below B5'.out)
  have hw4 : w.heap.size + 1 < W4.heap.size := Z4.out.lt
  have O5 := Lib.hid (show W5.ownsRow W4.heap.size 37 4 v13 L (eA.cs ss) from ho13)
  clear hg5 ho13 Z4 RA4 RS4 B5' ON4
  by_cases hL0 : 0 < L
  · obtain ⟨g, c, rfl, hLc⟩ := own_g O5.out hL0
    obtain ⟨k, hk⟩ : ∃ k, an % L = k := ⟨_, rfl⟩
    have hkL : k < L := by rw [← hk]; exact Nat.mod_lt _ hL0
    have hkm : (an : Int).tmod (L : Int) = (k : Int) := by rw [← hk, ← Int.ofNat_tmod]
    clear hk
    obtain ⟨z0, z1, z2, z3⟩ := Z5.out.c
    have hgB := Lib.hid (O5.out.lt g rfl)
    have hAU := Lib.hid (show Au (ss.set k z) from fun y hy => by
      rcases List.mem_or_eq_of_mem_set hy with hy | rfl
      · exact HV.out.u y hy
      · exact ⟨hz0, hz1⟩)
    go_wp2_with fail
    refine wp_region_quiet_tail_lit 8 (by kernel_rfl) (by kernel_rfl) ?_
    simp only [List.take_succ_cons, List.take_zero, List.drop_succ_cons, List.drop_zero]
    repeat (go_big_quiet_step (fail))
    refine wpQuiet_nil ?_
    rintro w6 ⟨n6, rfl⟩
    have O6 := Lib.hid (own_keep O5.out (bdrewN (Below.refl _ W5) n6))
    have B6 := Lib.hid (bdrewN B5.out n6)
    have Z6 := Lib.hid (Z5.out.drewN n6)
    have RA6 := Lib.hid (RA5.out.drewN n6)
    clear z0 z1 z2 z3 Z5 O5 RA5
    generalize W5.drewN n6 = W6 at *
    have hbg := Lib.hid (show w.heap.size ≤ g from Nat.le_trans B4.out.size hgB.out.1)
    go_wp2_with (refine at_storeRow _ _ W4.heap.size g L c k ss z O6.out HL.out hkL rfl rfl rfl rfl ?_; intro W7 O7 G7; have B7 := Lib.hid (show Below w.heap.size w W7 from B6.out.grown G7.out B6.out.size (fun k' e => by injection e with e; have := hbg.out; omega)); have RA7 := Lib.hid (HAW.out _ _ _ RA6.out G7.out hbg.out); have Z7 := Lib.hid (Z6.out.grown G7.out (fun e => by injection e with e; have := hgB.out.1; omega)))
    have RY7 := Lib.hid (own_slice (E := eA) O7.out (by rw [List.length_set, HL.out]; omega))
    have hyl : (ss.set k z).length = L := by rw [List.length_set, HL.out]
    have HY1 := Lib.hid fun W hR => right_row (some ⟨g, 0, none⟩) (ss.set k z) c W hR (by rw [hyl]; exact hLc)
    have HY2 := Lib.hid fun W hR => lright_any (some ⟨g, 0, none⟩) (ss.set k z) c W hR (by rw [hyl]; exact hLc) hAU.out (by omega)
    rw [hyl] at HY1 HY2
    obtain ⟨ry, hry⟩ : ∃ ry, rgB (ss.set k z) = ry := ⟨_, rfl⟩
    rw [hry] at HY1 HY2
    have hys : (ry == ry) = true := by simp
    clear hry hyl
    have HZ1 := Lib.hid (open_any z)
    have HZ2 := Lib.hid (lopen_any z)
    obtain ⟨oz, hoz⟩ : ∃ q, opB z = q := ⟨_, rfl⟩
    rw [hoz] at HZ1 HZ2
    clear hoz
    have hos : (oz == oz) = true := by simp
    go_upto_region 10 with fail
    have G1 := Lib.hid fun d os => Calls.regrown_of (d := d) (os := os) (HY1.out (Sort.grow (redrawn W7 d) os) (RY7.out.below (below_regrown W7 d os)))
    have G2 := Lib.hid fun d os => Calls.regrown_of (d := d) (os := os) (HY2.out (Sort.grow (redrawn W7 d) os) (RY7.out.below (below_regrown W7 d os)))
    have G3 := Lib.hid fun d os => Calls.regrown_of (d := d) (os := os) (HRR.out (Sort.grow (redrawn W7 d) os) (RA7.out.below (below_regrown W7 d os)))
    have G4 := Lib.hid fun d os => Calls.regrown_of (d := d) (os := os) (HLR.out (Sort.grow (redrawn W7 d) os) (RA7.out.below (below_regrown W7 d os)))
    have G5 := Lib.hid fun d os => Calls.regrown_of (d := d) (os := os) (HZ1.out (Sort.grow (redrawn W7 d) os))
    have G6 := Lib.hid fun d os => Calls.regrown_of (d := d) (os := os) (HZ2.out (Sort.grow (redrawn W7 d) os))
    have HLQ := Lib.hid (show ∀ W', (∃ p : Regrown, W' = Sort.grow (redrawn W7 p.d) p.os) → ∀ j v, (cal z)[j]? = some v → W'.cell? ((⟨w.heap.size + 1, 0, none⟩ : Addr).add j) = some v from by rintro W' ⟨p, rfl⟩; exact (Z7.out.below (below_regrown W7 p.d p.os)).at)
    unfold cav at G5 G6
    try dsimp only [Act.put]
    refine wp_region_quiet_below (by kernel_rfl) (by kernel_rfl) ?_
    repeat (first | go_big_quiet_skip | (refine quiet_load37 (.tmp 9) ⟨w.heap.size + 1, 0, none⟩ z HLQ.out ?_ ?_ ?_ ?_; rotate_left; (with_reducible rfl); rfl; rotate_left; kernel_rfl; simp only [Act.put, List.setIfInBounds_toArray, List.set_cons_zero, List.set_cons_succ]) | go_big_quiet_step (first | (go_at_call 16; (with_reducible exact G1.out _ _)) | (go_at_call 16; (with_reducible exact G3.out _ _)) | (go_at_call 18; (with_reducible exact G2.out _ _)) | (go_at_call 18; (with_reducible exact G4.out _ _)) | (go_at_call 19; (with_reducible exact G5.out _ _)) | (go_at_call 20; (with_reducible exact G6.out _ _))))
    refine wpQuiet_nil ?_
    intro _ hw'
    obtain ⟨⟨dq, osq⟩, hw''⟩ := hw'
    subst hw''
    have B8 := Lib.hid (B7.out.trans ((below_regrown W7 dq osq).mono B7.out.size))
    go_wp2_with fail
    go_ret
    exact ⟨rfl, B8.out⟩
  · obtain rfl : L = 0 := by omega
    obtain rfl : ss = [] := List.eq_nil_of_length_eq_zero HL.out
    obtain ⟨A', c, rfl⟩ : ∃ A' c', v13 = .slice A' 0 c' := by
      rcases O5.out.2 with ⟨e1, -⟩ | ⟨g, c, cur, e1, -⟩
      · exact ⟨none, 0, e1⟩
      · exact ⟨_, c, e1⟩
    have B7 := B5
    have RA7 := RA5
    have Z7 := Z5
    obtain ⟨W7, rfl⟩ : ∃ w7, w7 = W5 := ⟨_, rfl⟩
    have RY7 := Lib.hid (Rw.nil (E := eA) W7 A')
    have HY1 := Lib.hid fun W hR => right_row A' [] c W hR (by simp)
    have HY2 := Lib.hid fun W hR => lright_any A' [] c W hR (by simp) (fun x hx => by simp at hx) (by simp)
    rw [List.length_nil] at HY1 HY2
    obtain ⟨ry, hry⟩ : ∃ ry, rgB [] = ry := ⟨_, rfl⟩
    rw [hry] at HY1 HY2
    have hys : (ry == ry) = true := by simp
    clear hry
    have HZ1 := Lib.hid (open_any z)
    have HZ2 := Lib.hid (lopen_any z)
    obtain ⟨oz, hoz⟩ : ∃ q, opB z = q := ⟨_, rfl⟩
    rw [hoz] at HZ1 HZ2
    clear hoz
    have hos : (oz == oz) = true := by simp
    go_upto_region 10 with fail
    have G1 := Lib.hid fun d os => Calls.regrown_of (d := d) (os := os) (HY1.out (Sort.grow (redrawn W7 d) os) (RY7.out.below (below_regrown W7 d os)))
    have G2 := Lib.hid fun d os => Calls.regrown_of (d := d) (os := os) (HY2.out (Sort.grow (redrawn W7 d) os) (RY7.out.below (below_regrown W7 d os)))
    have G3 := Lib.hid fun d os => Calls.regrown_of (d := d) (os := os) (HRR.out (Sort.grow (redrawn W7 d) os) (RA7.out.below (below_regrown W7 d os)))
    have G4 := Lib.hid fun d os => Calls.regrown_of (d := d) (os := os) (HLR.out (Sort.grow (redrawn W7 d) os) (RA7.out.below (below_regrown W7 d os)))
    have G5 := Lib.hid fun d os => Calls.regrown_of (d := d) (os := os) (HZ1.out (Sort.grow (redrawn W7 d) os))
    have G6 := Lib.hid fun d os => Calls.regrown_of (d := d) (os := os) (HZ2.out (Sort.grow (redrawn W7 d) os))
    have HLQ := Lib.hid (show ∀ W', (∃ p : Regrown, W' = Sort.grow (redrawn W7 p.d) p.os) → ∀ j v, (cal z)[j]? = some v → W'.cell? ((⟨w.heap.size + 1, 0, none⟩ : Addr).add j) = some v from by rintro W' ⟨p, rfl⟩; exact (Z7.out.below (below_regrown W7 p.d p.os)).at)
    unfold cav at G5 G6
    try dsimp only [Act.put]
    refine wp_region_quiet_below (by kernel_rfl) (by kernel_rfl) ?_
    repeat (first | go_big_quiet_skip | (refine quiet_load37 (.tmp 9) ⟨w.heap.size + 1, 0, none⟩ z HLQ.out ?_ ?_ ?_ ?_; rotate_left; (with_reducible rfl); rfl; rotate_left; kernel_rfl; simp only [Act.put, List.setIfInBounds_toArray, List.set_cons_zero, List.set_cons_succ]) | go_big_quiet_step (first | (go_at_call 16; (with_reducible exact G1.out _ _)) | (go_at_call 16; (with_reducible exact G3.out _ _)) | (go_at_call 18; (with_reducible exact G2.out _ _)) | (go_at_call 18; (with_reducible exact G4.out _ _)) | (go_at_call 19; (with_reducible exact G5.out _ _)) | (go_at_call 20; (with_reducible exact G6.out _ _))))
    refine wpQuiet_nil ?_
    intro _ hw'
    obtain ⟨⟨dq, osq⟩, hw''⟩ := hw'
    subst hw''
    have B8 := Lib.hid (B7.out.trans ((below_regrown W7 dq osq).mono B7.out.size))
    go_wp2_with fail
    go_ret
    exact ⟨rfl, B8.out⟩
end Go.Proofs.Ytmaaniokfpkbjaa
