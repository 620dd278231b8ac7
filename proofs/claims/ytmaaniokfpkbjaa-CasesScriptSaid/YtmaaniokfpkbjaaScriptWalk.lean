/-
  CasesScript's walk: what becomes of cases is what the document says, deed by deed. Conditions: what comes in lies in memory, and numbers have their bits.
-/
import Derived.BigGuard
import Derived.Test.YtmaaniokfpkbjaaCho
import Derived.Test.YtmaaniokfpkbjaaMra
import Derived.Test.YtmaaniokfpkbjaaMst
import Derived.Test.YtmaaniokfpkbjaaLsm
set_option linter.unusedSimpArgs false
set_option linter.unusedVariables false
namespace Go.Proofs.Ytmaaniokfpkbjaa
open Go.RowKit

theorem doO_r {q now : Int} {a : Ac} {xs : List Ca} (h : a.o % 8 < 2) : doO q now a xs = rsO q now (nr a.p) xs := by unfold doO; rw [if_pos h]
theorem doO_6 {q now : Int} {a : Ac} {xs : List Ca} (h : 5 < a.o % 8) : doO q now a xs = (xs, 0) := by
  unfold doO
  rw [if_neg (by omega), if_neg (by omega), if_neg (by omega), if_neg (by omega), if_neg (by omega)]
theorem model_any (c : Cf) (a : Ac) (now : Int) (A : Option Addr) (xs : List Ca) (cap : Nat) (w : World) (h : Rw eA w A xs) (hc : xs.length ≤ cap) (hx9 : xs.length ≤ 900) (ha : a.Ok) (hd : ∀ x ∈ xs, 0 ≤ x.d ∧ x.d ≤ 1099511627776) (hn0 : 0 ≤ now) (hn1 : now ≤ 1099511627776) (h8 : ¬ 5 < a.o % 8) :
    Calls Try.prog 14 #[cfv c, .slice A xs.length cap, acv a, .int .i64 now] w (OutPost w (doO c.i now a xs).1 (doO c.i now a xs).2) := by
  by_cases h2 : a.o % 8 < 2
  · rw [doO_r h2]
    exact mraise_any c a now A xs cap w h hc hx9 ha hd hn0 hn1 h2
  · exact mstep_any c a now A xs cap w h hc hx9 ha hd hn0 hn1 (by omega)
/-- A list behind one deed more. -/
theorem sm_tick {q h : Int} {ss : List Ca} {nwt : Int} {a : Ac} (h5 : 5 < a.o % 8) : sm1 q h (ss, nwt) a = (tkO h (nwt + a.n % 10) ss, nwt + a.n % 10) := by
  unfold sm1 ls1
  rw [if_pos h5]
  dsimp only
  rw [doO_6 h5]
  rfl
theorem sm_deed {q h : Int} {ss : List Ca} {nwt : Int} {a : Ac} {D : List Ca × Int} (h5 : ¬ 5 < a.o % 8) (hD : doO q nwt a ss = D) : sm1 q h (ss, nwt) a = ((if D.2 = 0 then D.1 else ss), nwt) := by
  unfold sm1 ls1
  rw [if_neg h5]
  dsimp only
  rw [hD]
theorem tk_is {h nn : Int} {x : Ca} (hr0 : 0 ≤ x.r) (hr1 : x.r ≤ 1099511627776) (h0 : 0 ≤ nn) (h1 : nn ≤ 1099511627776) : tk h nn x = if x.g = 0 ∧ h ≤ nn - x.r then ⟨x.a, x.r, nn, 3⟩ else x := by
  unfold tk si
  rw [cl_in hr0 hr1, cl_in h0 h1]
  split
  · unfold mv
    rw [if_neg (by simp [opB]), cl_in h0 h1]
  · rfl

set_option maxRecDepth 100000 in
set_option maxHeartbeats 16000000 in
theorem casesScript_walk (x : Hc) (B : Option Addr) (ys : List Ac) (cy : Nat) (w : World) (hx : x.Ok) (hB : Rw eC w B ys) (hcy : ys.length ≤ cy) (hok : ∀ y ∈ ys, y.Ok) :
    Calls Try.prog 3 #[hv x, .slice B ys.length cy] w fun e w' => e = .returned (.bool true) ∧ Below w.heap.size w w' := by
  have hln := hB.1
  have B0 := Lib.hid (show Below w.heap.size w (w.alloc (Hcx x)) from (Below.refl _ w).alloc (Nat.le_refl _) _)
  have M0 := Lib.hid (show Hm (w.alloc (Hcx x)) w.heap.size x from hc_box w x)
  have RB0 := Lib.hid (hB.below B0.out)
  have HCH := Lib.hid fun W => choice_any x W hx
  generalize ch x = C at *
  obtain ⟨zs, hzs⟩ : ∃ zs, ys.take 200 = zs := ⟨_, rfl⟩
  have HOKA := Lib.hid (show ∀ y ∈ zs, y.Ok from fun y hy => hok y (List.mem_of_mem_take (hzs ▸ hy)))
  have hzn : zs.length = min 200 ys.length := by rw [← hzs, List.length_take]
  have HZS := Lib.hid fun W (hR : Rw eC W B ys) => show Rw eC W B zs from hzs ▸ hR.take 200
  have HSN := Lib.hid fun l a => smO_snoc C.i C.h l a
  clear hB hok hzs
  obtain ⟨Ly, hLy⟩ : ∃ n, ys.length = n := ⟨_, rfl⟩
  rw [hLy] at hln hcy hzn ⊢
  clear hLy
  obtain ⟨N, hN⟩ : ∃ n, zs.length = n := ⟨_, rfl⟩
  have HN := Lib.hid hN
  rw [hN] at hzn
  clear hN
  have hmin : min (Ly : Int) 200 = (N : Int) := by omega
  have hNc : N ≤ cy := by omega
  have hNc' : (N : Int) ≤ cy := by omega
  have hN200 : N ≤ 200 := by omega
  have HSL := run_sl24 B Ly cy N hNc
  clear hzn
  unfold hv Hcx cfv at *
  go_enter Try.func3, Try.ntmps3
  go_wp2_with fail
  generalize w.alloc (.cells #[.int .u8 x.a, .int .u8 x.b, .int .u8 x.c, .int .u8 x.d, .int .u8 x.e, .int .u8 x.f, .int .u8 x.g, .int .u8 x.h, .int .u8 x.i] 23) = W0 at *
  refine (awake_any W0).mono ?_
  rintro e W1 ⟨rfl, hb⟩
  have B1 := Lib.hid (B0.out.trans (hb.mono B0.out.size))
  have M1 := Lib.hid (M0.out.below hb)
  have RB1 := Lib.hid (RB0.out.below hb)
  clear hb M0 RB0
  go_wp2_with (refine at_load23 (.tmp 2) rfl rfl _ x rfl M1.out ?_)
  refine (HCH.out W1).mono ?_
  rintro e W2 ⟨rfl, hb⟩
  have B2a := Lib.hid (B1.out.trans (hb.mono B1.out.size))
  have RB2a := Lib.hid (RB1.out.below hb)
  have C2 := Lib.hid (cm_box W2 C)
  have B2 := Lib.hid (B2a.out.alloc B2a.out.size (Cfx C))
  have RB2 := Lib.hid (RB2a.out.below ((Below.refl _ W2).alloc (Nat.le_refl _) (Cfx C)))
  clear hb RB1 M1 B2a RB2a
  go_upto_region 4 with fail
  change Code.wp _ _ _ _ (W2.alloc (Cfx C))
  generalize W2.alloc (Cfx C) = W3 at *
  obtain ⟨bc, hbc⟩ : ∃ bc, W2.heap.size = bc := ⟨_, rfl⟩
  rw [hbc] at C2 ⊢
  clear hbc
  have RZ := Lib.hid (HZS.out _ RB2.out)
  clear RB2 HZS
  go_wp2_with fail
  go_loopw [6, 7, 27] (fun v t i wr => ∃ (k : Nat) (ss : List Ca) (nw : Int) (L : Nat) (As : Option Addr) (cs : Nat), i = .int .i64 k ∧ k ≤ N ∧ v = .slice As L cs ∧ t = .int .i64 nw ∧ L ≤ 16 ∧ 0 ≤ nw ∧ nw ≤ 9 * k ∧ Hid (smO C.i C.h (zs.take k) = (ss, nw) ∧ ss.length = L ∧ L ≤ cs ∧ Rw eA wr As ss ∧ Vn (ss, nw) ∧ Below w.heap.size w wr ∧ Below W3.heap.size W3 wr)) (fun _ _ i _ => N - (intOf i).toNat)
  case atStart => exact ⟨0, [], 0, 0, none, 0, rfl, by omega, rfl, rfl, by omega, by omega, by omega, Lib.hid ⟨by simp [smO], rfl, by omega, Rw.nil _ _, Vn.nil, B2.out, Below.refl _ _⟩⟩
  case round =>
    obtain ⟨k, ss, nw, L, As, cs, rfl, hk, rfl, rfl, hss, hn0, hn9, HR⟩ := hrel
    by_cases hkN : k < N
    · obtain ⟨a, ha⟩ : ∃ a, zs[k]? = some a := ⟨_, List.getElem?_eq_getElem (by rw [HN.out]; exact hkN)⟩
      have hak := HOKA.out a (List.mem_of_getElem? ha)
      obtain ⟨y, rfl⟩ := rw_some RZ.out (by rw [HN.out]; omega)
      obtain ⟨hsm, hL, hcs, hR, hV, hBB, hB3⟩ := HR.out
      have hat := (RZ.out.below hB3).at ha
      have HT := Lib.hid (show smO C.i C.h (zs.take (k + 1)) = sm1 C.i C.h (ss, nw) a by rw [List.take_add_one, ha, ← hsm]; exact HSN.out _ _)
      have VV := Lib.hid hV
      have HL := Lib.hid hL
      have HCS := Lib.hid hcs
      have AM := Lib.hid (am_box wr a)
      have BX := Lib.hid (hB3.alloc hB3.size (Acx a))
      have B1 := Lib.hid (show Below w.heap.size w (wr.alloc (Acx a)) from hBB.alloc hBB.size _)
      have R1 := Lib.hid (hR.below ((Below.refl _ wr).alloc (Nat.le_refl _) (Acx a)))
      have C1 := Lib.hid (C2.out.below BX.out)
      have hsz : wr.heap.size < (wr.alloc (Acx a)).heap.size := by simp
      obtain ⟨o0, o1⟩ := hak.o
      obtain ⟨n0, n1⟩ := hak.n
      clear hsm hL hcs hR hV hBB hB3 HR ha
      unfold Acx at *
      go_upto_region 9 with (refine at_load31 (.tmp 29) rfl rfl (y.add (k * 3)) a rfl hat ?_)
      generalize wr.alloc (.cells #[.int .u8 a.o, .int .u8 a.p, .int .u8 a.n] 31) = W1 at *
      clear hat
      obtain ⟨m0, m1, m2⟩ := AM.out.c
      by_cases h5 : 5 < a.o % 8
      · have HS5 := Lib.hid (sm_tick (q := C.i) (h := C.h) (ss := ss) (nwt := nw) h5)
        have HVT := Lib.hid (tick_ok (h := C.h) (t := a.n % 10) VV.out (by show nw + a.n % 10 ≤ _; omega) (by omega))
        obtain ⟨nn, hnn⟩ : ∃ q, nw + a.n % 10 = q := ⟨_, rfl⟩
        have HNN := Lib.hid hnn
        have hn0' : 0 ≤ nn := by omega
        have hn1' : nn ≤ 10000 := by omega
        have hn2' : nn ≤ nw + 9 := by omega
        go_upto_region 11 with fail
        rw [hnn] at HS5 HVT
        clear hnn
        have HTK := Lib.hid fun W hR => tick_any C nn As ss cs W hR (by rw [HL.out]; exact HCS.out) (by rw [HL.out]; omega)
        have HTL := Lib.hid (show (tkO C.h nn ss).length = L by rw [← HL.out]; unfold tkO; exact List.length_map _)
        have HTA := Lib.hid fun k x (hx : ss[k]? = some x) => show (tkO C.h nn ss)[k]? = some (tk C.h nn x) by unfold tkO; rw [List.getElem?_map, hx]; rfl
        have HTI := Lib.hid fun x (hx : x ∈ ss) => tk_is (h := C.h) (nn := nn) (x := x) (rc_out (VV.out.v.r.all x hx)).2.2.1 (rc_out (VV.out.v.r.all x hx)).2.2.2.1 hn0' (by omega)
        rw [HL.out] at HTK
        go_wp2_with (refine at_load27 (.tmp 5) rfl rfl _ C rfl C1.out.at ?_)
        refine (HTK.out _ R1.out).mono ?_
        rintro e w2 ⟨v2, rfl, ho2, hb⟩
        generalize tkO C.h nn ss = ts at *
        obtain ⟨A2, c2, rfl, hc2, -, -, hR2, -⟩ := own_rw (E := eA) ho2 (by rw [HTL.out]; omega)
        rw [HTL.out] at hc2 ⊢
        have B2 := Lib.hid (B1.out.trans (hb.mono B1.out.size))
        have BX2 := Lib.hid (BX.out.trans (hb.mono BX.out.size))
        have R2 := Lib.hid hR2
        have R1b := Lib.hid (R1.out.below hb)
        have C2 := Lib.hid (C1.out.below hb)
        have HC2 := Lib.hid hc2
        clear hb hR2 ho2 m0 m1 m2
        have hbn := C2.out.lt
        have hLne : ((L : Int) != L) = false := by simp
        obtain ⟨wp, rfl⟩ : ∃ wp, wp = wr := ⟨_, rfl⟩
        go_wp2_with fail
        go_loopw [52] (fun i wr => ∃ j : Nat, i = .int .i64 j ∧ j ≤ L ∧ Hid (Below w2.heap.size w2 wr)) (fun i _ => L - (intOf i).toNat)
        case atStart => exact ⟨0, rfl, by omega, Lib.hid (Below.refl _ _)⟩
        case round =>
          obtain ⟨j, rfl, hj, HW⟩ := hrel
          by_cases hjL : j < L
          · obtain ⟨z, hz⟩ : ∃ z, ss[j]? = some z := at_of_lt (by rw [HL.out]; exact hjL)
            have htz := HTA.out j z hz
            have hti := HTI.out z (List.mem_of_getElem? hz)
            obtain ⟨-, -, zr0, zr1, -, -, -, -⟩ := rc_out (VV.out.v.r.all z (List.mem_of_getElem? hz))
            have hzn : z.r ≤ nw := VV.out.now z (List.mem_of_getElem? hz)
            obtain ⟨y, rfl⟩ := rw_some R1b.out (by rw [HL.out]; omega)
            obtain ⟨y2, rfl⟩ := rw_some R2.out (by rw [HTL.out]; omega)
            have hat := (R1b.out.below HW.out).at hz
            have BB := Lib.hid (show Below w2.heap.size w2 (wr.alloc (Cax z)) from HW.out.alloc HW.out.size _)
            have Q1 := Lib.hid (qb_box wr z)
            have C3 := Lib.hid (C2.out.below BB.out)
            have hs2 : w2.heap.size ≤ wr.heap.size := HW.out.size
            have hsz : wr.heap.size < (wr.alloc (Cax z)).heap.size := by simp
            obtain ⟨tz, htz'⟩ : ∃ q, tk C.h nn z = q := ⟨_, rfl⟩
            rw [htz'] at htz hti
            have HTZ := Lib.hid htz
            have HTI2 := Lib.hid hti
            clear hz htz hti htz'
            unfold Cax at *
            go_upto_region 17 with (refine at_load37 (.tmp 55) rfl rfl (y.add (j * 4)) z rfl hat ?_)
            generalize wr.alloc (.cells #[.int .u32 z.a, .int .i64 z.r, .int .i64 z.d, .int .i64 z.g] 37) = W at *
            clear hat
            obtain ⟨q0, q1, q2, q3⟩ := Q1.out.c
            have c7 := C3.out.c7
            cases hg : (z.g == 0)
            · have HT9 := Lib.hid (show tz = z by rw [HTI2.out, if_neg (fun h => by rw [h.1] at hg; simp at hg)])
              go_upto_region 19 with fail
              have hlx : ∀ W', (∃ m, W' = W.drewN m) → ∀ i v, (cal tz)[i]? = some v → W'.cell? ((y2.add (j * 4)).add i) = some v := by
                rintro W' ⟨m, rfl⟩
                exact ((R2.out.below BB.out).drewN m).at HTZ.out
              have hlz : ∀ W', (∃ m, W' = W.drewN m) → ∀ i v, (cal z)[i]? = some v → W'.cell? ((⟨wr.heap.size, 0, none⟩ : Addr).add i) = some v := by
                rintro W' ⟨m, rfl⟩
                exact (Q1.out.drewN m).at
              rw [HT9.out] at hlx
              have HLX := Lib.hid hlx
              have HLZ := Lib.hid hlz
              have heq : eqr z z = true := by simp [eqr]
              clear hlx hlz q0 q1 q2 q3 c7
              have hjc : j < c2 := by have := HC2.out; omega
              refine wp_region_quiet_lit (by kernel_rfl) (by kernel_rfl) ?_
              repeat (first | (refine quiet_load37 (.tmp 74) (y2.add (j * 4)) z HLX.out ?_ ?_ ?_ ?_; rotate_left; (with_reducible rfl); rfl; rotate_left; kernel_rfl; simp only [Act.put, List.setIfInBounds_toArray, List.set_cons_zero, List.set_cons_succ]) | (refine quiet_load37 (.tmp 12) ⟨wr.heap.size, 0, none⟩ z HLZ.out ?_ ?_ ?_ ?_; rotate_left; (with_reducible rfl); rfl; rotate_left; kernel_rfl; simp only [Act.put, List.setIfInBounds_toArray, List.set_cons_zero, List.set_cons_succ]) | (refine quiet_neq37 (.tmp 75) (.tmp 76) z z ?_ ?_ ?_ ?_ ?_; rotate_left; (with_reducible rfl); rfl; rfl; rotate_left; kernel_rfl; simp only [heq, Bool.not_true, Act.put, List.setIfInBounds_toArray, List.set_cons_zero, List.set_cons_succ]) | go_big_quiet_step (fail))
              refine wpQuiet_nil ?_
              intro _ hw'
              obtain ⟨nq, hw''⟩ := hw'
              subst hw''
              have B8 := Lib.hid (bdrewN BB.out nq)
              go_wp2_with fail
              go_roundw
              case rel => exact ⟨j + 1, by go_num, by omega, B8⟩
              case measure => simp [intOf]; omega
            · have hg0 : z.g = 0 := by simpa using hg
              have HG0 := Lib.hid hg0
              clear hg0
              by_cases hl : C.h ≤ nn - z.r
              · have HT9 := Lib.hid (show tz = ⟨z.a, z.r, nn, 3⟩ by rw [HTI2.out, if_pos ⟨HG0.out, hl⟩])
                have f2 := Q1.out.fr 2 (by omega)
                have f3 := Q1.out.fr 3 (by omega)
                have Q4 := Lib.hid ((Q1.out.set3 3).set2 nn)
                dsimp only at Q4
                have B4 := Lib.hid ((BB.out.setCell (p := ⟨wr.heap.size, 3, none⟩) hs2 (.int .i64 3)).setCell (p := ⟨wr.heap.size, 2, none⟩) hs2 (.int .i64 nn))
                go_upto_region 19 with fail
                generalize (W.setCell ⟨wr.heap.size, 3, none⟩ (.int .i64 3)).setCell ⟨wr.heap.size, 2, none⟩ (.int .i64 nn) = W4 at *
                have hlx : ∀ W', (∃ m, W' = W4.drewN m) → ∀ i v, (cal tz)[i]? = some v → W'.cell? ((y2.add (j * 4)).add i) = some v := by
                  rintro W' ⟨m, rfl⟩
                  exact ((R2.out.below B4.out).drewN m).at HTZ.out
                have hlz : ∀ W', (∃ m, W' = W4.drewN m) → ∀ i v, (cal ⟨z.a, z.r, nn, 3⟩)[i]? = some v → W'.cell? ((⟨wr.heap.size, 0, none⟩ : Addr).add i) = some v := by
                  rintro W' ⟨m, rfl⟩
                  exact (Q4.out.drewN m).at
                rw [HT9.out] at hlx
                have HLX := Lib.hid hlx
                have HLZ := Lib.hid hlz
                have heq : eqr ⟨z.a, z.r, nn, 3⟩ ⟨z.a, z.r, nn, 3⟩ = true := by simp [eqr]
                clear hlx hlz q0 q1 q2 q3 c7
                have hjc : j < c2 := by have := HC2.out; omega
                refine wp_region_quiet_lit (by kernel_rfl) (by kernel_rfl) ?_
                repeat (first | (refine quiet_load37 (.tmp 74) (y2.add (j * 4)) ⟨z.a, z.r, nn, 3⟩ HLX.out ?_ ?_ ?_ ?_; rotate_left; (with_reducible rfl); rfl; rotate_left; kernel_rfl; simp only [Act.put, List.setIfInBounds_toArray, List.set_cons_zero, List.set_cons_succ]) | (refine quiet_load37 (.tmp 12) ⟨wr.heap.size, 0, none⟩ ⟨z.a, z.r, nn, 3⟩ HLZ.out ?_ ?_ ?_ ?_; rotate_left; (with_reducible rfl); rfl; rotate_left; kernel_rfl; simp only [Act.put, List.setIfInBounds_toArray, List.set_cons_zero, List.set_cons_succ]) | (refine quiet_neq37 (.tmp 75) (.tmp 76) ⟨z.a, z.r, nn, 3⟩ ⟨z.a, z.r, nn, 3⟩ ?_ ?_ ?_ ?_ ?_; rotate_left; (with_reducible rfl); rfl; rfl; rotate_left; kernel_rfl; simp only [heq, Bool.not_true, Act.put, List.setIfInBounds_toArray, List.set_cons_zero, List.set_cons_succ]) | go_big_quiet_step (fail))
                refine wpQuiet_nil ?_
                intro _ hw'
                obtain ⟨nq, hw''⟩ := hw'
                subst hw''
                have B8 := Lib.hid (bdrewN B4.out nq)
                go_wp2_with fail
                go_roundw
                case rel => exact ⟨j + 1, by go_num, by omega, B8⟩
                case measure => simp [intOf]; omega
              · have hl' : decide (C.h ≤ nn - z.r) = false := decide_eq_false hl
                have HT9 := Lib.hid (show tz = z by rw [HTI2.out, if_neg (fun h => hl h.2)])
                go_upto_region 19 with fail
                have hlx : ∀ W', (∃ m, W' = W.drewN m) → ∀ i v, (cal tz)[i]? = some v → W'.cell? ((y2.add (j * 4)).add i) = some v := by
                  rintro W' ⟨m, rfl⟩
                  exact ((R2.out.below BB.out).drewN m).at HTZ.out
                have hlz : ∀ W', (∃ m, W' = W.drewN m) → ∀ i v, (cal z)[i]? = some v → W'.cell? ((⟨wr.heap.size, 0, none⟩ : Addr).add i) = some v := by
                  rintro W' ⟨m, rfl⟩
                  exact (Q1.out.drewN m).at
                rw [HT9.out] at hlx
                have HLX := Lib.hid hlx
                have HLZ := Lib.hid hlz
                have heq : eqr z z = true := by simp [eqr]
                clear hlx hlz q0 q1 q2 q3 c7
                have hjc : j < c2 := by have := HC2.out; omega
                refine wp_region_quiet_lit (by kernel_rfl) (by kernel_rfl) ?_
                repeat (first | (refine quiet_load37 (.tmp 74) (y2.add (j * 4)) z HLX.out ?_ ?_ ?_ ?_; rotate_left; (with_reducible rfl); rfl; rotate_left; kernel_rfl; simp only [Act.put, List.setIfInBounds_toArray, List.set_cons_zero, List.set_cons_succ]) | (refine quiet_load37 (.tmp 12) ⟨wr.heap.size, 0, none⟩ z HLZ.out ?_ ?_ ?_ ?_; rotate_left; (with_reducible rfl); rfl; rotate_left; kernel_rfl; simp only [Act.put, List.setIfInBounds_toArray, List.set_cons_zero, List.set_cons_succ]) | (refine quiet_neq37 (.tmp 75) (.tmp 76) z z ?_ ?_ ?_ ?_ ?_; rotate_left; (with_reducible rfl); rfl; rfl; rotate_left; kernel_rfl; simp only [heq, Bool.not_true, Act.put, List.setIfInBounds_toArray, List.set_cons_zero, List.set_cons_succ]) | go_big_quiet_step (fail))
                refine wpQuiet_nil ?_
                intro _ hw'
                obtain ⟨nq, hw''⟩ := hw'
                subst hw''
                have B8 := Lib.hid (bdrewN BB.out nq)
                go_wp2_with fail
                go_roundw
                case rel => exact ⟨j + 1, by go_num, by omega, B8⟩
                case measure => simp [intOf]; omega
          · obtain rfl : j = L := by omega
            have R9 := Lib.hid (R2.out.below HW.out)
            have B9 := Lib.hid (B2.out.trans (HW.out.mono B2.out.size))
            have BX9 := Lib.hid (BX2.out.trans (HW.out.mono BX2.out.size))
            have HC9 := Lib.hid (show ts.length ≤ c2 by rw [HTL.out]; exact HC2.out)
            have HTL2 := Lib.hid HTL.out.symm
            go_wp2_with fail
            go_roundw
            case rel => exact ⟨k + 1, ts, nn, j, A2, c2, by go_num, by omega, rfl, rfl, hss, hn0', by omega, Lib.hid ⟨by rw [HT.out, HS5.out], HTL.out, HC2.out, R9.out, HVT.out, B9.out, BX9.out⟩⟩
            case measure => simp [intOf]; omega
      · have h5' : decide (5 < a.o % 8) = false := decide_eq_false h5
        have HDD : ∀ x ∈ ss, 0 ≤ x.d ∧ x.d ≤ 1099511627776 := fun x hx => ⟨(rc_out (VV.out.v.r.all x hx)).2.2.2.2.1, (rc_out (VV.out.v.r.all x hx)).2.2.2.2.2.1⟩
        have HDO := Lib.hid fun W hR => do_any C a nw As ss cs W hR (by rw [HL.out]; exact HCS.out) (by rw [HL.out]; omega) hak
        have HMO := Lib.hid fun W hR => model_any C a nw As ss cs W hR (by rw [HL.out]; exact HCS.out) (by rw [HL.out]; omega) hak HDD hn0 (by omega) h5
        obtain ⟨D, hD⟩ : ∃ D, doO C.i nw a ss = D := ⟨_, rfl⟩
        have HS5 := Lib.hid (sm_deed (q := C.i) (h := C.h) h5 hD)
        have HOK := Lib.hid (show Vn ((if D.2 = 0 then D.1 else ss), nw) from by have h := ls1_ok (q := C.i) (a := a) VV.out (by show nw ≤ 100000; omega); unfold ls1 at h; dsimp only at h; rw [hD] at h; exact h)
        rw [hD] at HDO HMO
        rw [HL.out] at HDO HMO
        clear hD HDD
        obtain ⟨ys, q⟩ := D
        dsimp only at HDO HMO HS5 HOK
        unfold acv at HDO HMO
        go_wp2_with (first | (refine at_load27 (.tmp 5) rfl rfl _ C rfl C1.out.at ?_) | (refine at_load31 (.tmp 9) rfl rfl _ a rfl AM.out ?_))
        refine (HDO.out _ R1.out).mono ?_
        rintro e w2 ⟨A2, c2, rfl, hc2, hR2, hb⟩
        have B2 := Lib.hid (B1.out.trans (hb.mono B1.out.size))
        have BX2 := Lib.hid (BX.out.trans (hb.mono BX.out.size))
        have R2 := Lib.hid hR2
        have R2s := Lib.hid (R1.out.below hb)
        have C2 := Lib.hid (C1.out.below hb)
        have AM2 := Lib.hid (AM.out.below hb)
        have HC2 := Lib.hid hc2
        clear hb hR2 hc2 m0 m1 m2
        go_wp2_with (first | (refine at_load27 (.tmp 5) rfl rfl _ C rfl C2.out.at ?_) | (refine at_load31 (.tmp 9) rfl rfl _ a rfl AM2.out ?_))
        refine (HMO.out _ R2s.out).mono ?_
        rintro e w3 ⟨A3, c3, rfl, hc3, hR3, hb⟩
        have B3 := Lib.hid (B2.out.trans (hb.mono B2.out.size))
        have BX3 := Lib.hid (BX2.out.trans (hb.mono BX2.out.size))
        have R3 := Lib.hid (R2.out.below hb)
        have R3s := Lib.hid (R2s.out.below hb)
        have R3m := Lib.hid hR3
        clear hb hR3 hc3
        have HSA := Lib.hid (same_any A2 A3 ys ys c2 c3 w3 R3.out R3m.out)
        rw [decide_eq_true rfl] at HSA
        have hqq : (q != q) = false := by simp
        obtain ⟨Ly2, hLy2⟩ : ∃ n, ys.length = n := ⟨_, rfl⟩
        have HLY := Lib.hid hLy2
        rw [hLy2] at HSA HC2 ⊢
        clear hLy2
        go_wp2_with fail
        refine HSA.out.mono ?_
        rintro e w4 ⟨rfl, nq, rfl⟩
        have B4 := Lib.hid (bdrewN B3.out nq)
        have BX4 := Lib.hid (bdrewN BX3.out nq)
        have R4 := Lib.hid (R3.out.drewN nq)
        have R4s := Lib.hid (R3s.out.drewN nq)
        clear R3 R3s R3m
        generalize w3.drewN nq = W4 at *
        by_cases hq : q = 0
        · have hqe : (q == 0) = true := by simpa using hq
          subst hq
          have HV9 := Lib.hid (show Vn (ys, nw) from by have h := HOK.out; rw [if_pos rfl] at h; exact h)
          have HR9 := Lib.hid (right_row A2 ys c2 W4 R4.out (by rw [HLY.out]; exact HC2.out))
          rw [rg_ok HV9.out.v.r, HLY.out] at HR9
          have hly : Ly2 ≤ 16 := by have := HV9.out.v.r.few; dsimp only at this; rw [HLY.out] at this; exact this
          go_wp2_with fail
          refine HR9.out.mono ?_
          rintro e w5 ⟨rfl, hb⟩
          have B5 := Lib.hid (B4.out.trans (hb.mono B4.out.size))
          have BX5 := Lib.hid (BX4.out.trans (hb.mono BX4.out.size))
          have R5 := Lib.hid (R4.out.below hb)
          clear hb
          go_wp2_with fail
          go_roundw
          case rel => exact ⟨k + 1, ys, nw, Ly2, A2, c2, by go_num, by omega, rfl, rfl, hly, hn0, by omega, Lib.hid ⟨by rw [HT.out, HS5.out]; simp, HLY.out, HC2.out, R5.out, HV9.out, B5.out, BX5.out⟩⟩
          case measure => simp [intOf]; omega
        · have hqe : (q == 0) = false := by simpa using hq
          have HR9 := Lib.hid (right_row As ss cs W4 R4s.out (by rw [HL.out]; exact HCS.out))
          rw [rg_ok VV.out.v.r, HL.out] at HR9
          have HQ := Lib.hid hq
          clear hq
          go_wp2_with fail
          refine HR9.out.mono ?_
          rintro e w5 ⟨rfl, hb⟩
          have B5 := Lib.hid (B4.out.trans (hb.mono B4.out.size))
          have BX5 := Lib.hid (BX4.out.trans (hb.mono BX4.out.size))
          have R5 := Lib.hid (R4s.out.below hb)
          clear hb
          go_wp2_with fail
          go_roundw
          case rel => exact ⟨k + 1, ss, nw, L, As, cs, by go_num, by omega, rfl, rfl, hss, hn0, by omega, Lib.hid ⟨by rw [HT.out, HS5.out, if_neg HQ.out], HL.out, HCS.out, R5.out, VV.out, B5.out, BX5.out⟩⟩
          case measure => simp [intOf]; omega
    · obtain rfl : N = k := by omega
      have BB := Lib.hid HR.out.2.2.2.2.2.1
      go_wp2_with fail
      go_ret
      exact ⟨rfl, BB.out⟩
end Go.Proofs.Ytmaaniokfpkbjaa
