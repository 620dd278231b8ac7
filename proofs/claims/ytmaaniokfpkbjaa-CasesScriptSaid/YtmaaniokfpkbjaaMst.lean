/-
  The contract of the statements' own model where a case changes its stage. Conditions: the row lies in memory, has up to 900 cases, and its ticks may be.
-/
import Derived.BigGuard
import Derived.Test.YtmaaniokfpkbjaaMdo
import Derived.Test.YtmaaniokfpkbjaaQTail
set_option linter.unusedSimpArgs false
set_option linter.unusedVariables false
namespace Go.Proofs.Ytmaaniokfpkbjaa
open Go.RowKit

theorem st_none {ck : Int → Bool} {tg now a : Int} {xs : List Ca} (h : fnd a xs = none) : stO ck tg now a xs = ([], 7) := by unfold stO; rw [h]
theorem st_some {ck : Int → Bool} {tg now a : Int} {xs : List Ca} {i : Nat} {x : Ca} (h : fnd a xs = some i) (hx : xs[i]? = some x) : stO ck tg now a xs = if ck x.g = true then (xs.set i (mv tg now x), 0) else ([], 8) := by
  unfold stO mvA
  rw [h]
  dsimp only
  rw [getD_at hx]
theorem doO_2 {q now : Int} {a : Ac} {xs : List Ca} (h : a.o % 8 = 2) : doO q now a xs = stO (fun g => g == 0) 1 now (nr a.p) xs := by unfold doO; simp [h]
theorem doO_3 {q now : Int} {a : Ac} {xs : List Ca} (h : a.o % 8 = 3) : doO q now a xs = stO (fun g => g == 0) 2 now (nr a.p) xs := by unfold doO; simp [h]
theorem doO_4 {q now : Int} {a : Ac} {xs : List Ca} (h : a.o % 8 = 4) : doO q now a xs = stO (fun g => g == 1) 5 now (nr a.p) xs := by unfold doO; simp [h]
theorem doO_5 {q now : Int} {a : Ac} {xs : List Ca} (h : a.o % 8 = 5) : doO q now a xs = stO (fun _ => true) 4 now (nr a.p) xs := by unfold doO; simp [h]
theorem mv_1 (now : Int) (x : Ca) : mv 1 now x = ⟨x.a, x.r, x.d, 1⟩ := by unfold mv; rw [if_pos (by simp [opB])]
theorem mv_o {tg now : Int} (x : Ca) (h0 : tg ≠ 0) (h1 : tg ≠ 1) (n0 : 0 ≤ now) (n1 : now ≤ 1099511627776) : mv tg now x = ⟨x.a, x.r, now, tg⟩ := by
  unfold mv
  rw [if_neg (by simp [opB, h0, h1]), cl_in n0 n1]

set_option maxRecDepth 100000 in
set_option maxHeartbeats 16000000 in
theorem mstep_any (c : Cf) (a : Ac) (now : Int) (A : Option Addr) (xs : List Ca) (cap : Nat) (w : World) (h : Rw eA w A xs) (hc : xs.length ≤ cap) (hx9 : xs.length ≤ 900) (ha : a.Ok) (hd : ∀ x ∈ xs, 0 ≤ x.d ∧ x.d ≤ 1099511627776) (hn0 : 0 ≤ now) (hn1 : now ≤ 1099511627776) (h8 : a.o % 8 = 2 ∨ a.o % 8 = 3 ∨ a.o % 8 = 4 ∨ a.o % 8 = 5) :
    Calls Try.prog 14 #[cfv c, .slice A xs.length cap, acv a, .int .i64 now] w (OutPost w (doO c.i now a xs).1 (doO c.i now a xs).2) := by
  have hln := h.1
  have H8 := Lib.hid h8
  clear h8
  have HB0 := Lib.hid (show Below w.heap.size w ((w.alloc (Cfx c)).alloc (Acx a)) from ((Below.refl _ w).alloc (Nat.le_refl _) _).alloc (by simp) _)
  have C0 := Lib.hid (show Cm ((w.alloc (Cfx c)).alloc (Acx a)) w.heap.size c from (cm_box w c).below ((Below.refl _ _).alloc (Nat.le_refl _) _))
  have A0 := Lib.hid (show Am ((w.alloc (Cfx c)).alloc (Acx a)) (w.heap.size + 1) a by have := am_box (w.alloc (Cfx c)) a; rw [World.size_alloc] at this; exact this)
  have R0 := Lib.hid (h.below HB0.out)
  obtain ⟨o0, o1⟩ := ha.o
  obtain ⟨p0, p1⟩ := ha.p
  have HNR := Lib.hid fun W => near_any a.p W p0 p1
  have HD2 := Lib.hid (doO_2 (q := c.i) (now := now) (a := a) (xs := xs))
  have HD3 := Lib.hid (doO_3 (q := c.i) (now := now) (a := a) (xs := xs))
  have HD4 := Lib.hid (doO_4 (q := c.i) (now := now) (a := a) (xs := xs))
  have HD5 := Lib.hid (doO_5 (q := c.i) (now := now) (a := a) (xs := xs))
  have HMO := Lib.hid fun tg x h0 h1 => mv_o (tg := tg) (now := now) x h0 h1 hn0 hn1
  obtain ⟨b, hb0⟩ : ∃ b, nr a.p = b := ⟨_, rfl⟩
  rw [hb0] at HNR HD2 HD3 HD4 HD5
  clear hb0
  have hs0 : w.heap.size + 1 < ((w.alloc (Cfx c)).alloc (Acx a)).heap.size := by simp
  have HOP := Lib.hid fun x W => lopen_any x W
  have HQT := Lib.hid fun x (hx : x ∈ xs) W => lquiet_any c x now W (hd x hx).1 (hd x hx).2 hn0 hn1
  have HFS := Lib.hid fun k x => @fnd_step b xs k x
  have HAS := Lib.hid fun k x => @aq_take c.i b now xs k x
  have HAT := Lib.hid fun k (hk : k < xs.length) => at_of_lt hk
  clear h hd
  obtain ⟨L, hL⟩ : ∃ L, xs.length = L := ⟨_, rfl⟩
  have HL := Lib.hid hL
  rw [hL] at hln hc hx9 HAT  ⊢
  clear hL
  unfold cfv Cfx acv Acx at *
  go_enter Try.func14, Try.ntmps14
  go_upto_region 1 with fail
  generalize (w.alloc (.cells #[.int .i64 c.a, .int .i64 c.b, .int .i64 c.c, .int .i64 c.d, .int .i64 c.e, .int .i64 c.f, .int .i64 c.g, .int .i64 c.h, .int .i64 c.i] 27)).alloc (.cells #[.int .u8 a.o, .int .u8 a.p, .int .u8 a.n] 31) = W0 at *
  obtain ⟨a0, a1, a2⟩ := A0.out.c
  go_wp2_with fail
  refine (HNR.out _).mono ?_
  rintro e w1 ⟨rfl, rfl⟩
  go_wp2_with fail
  clear a0 a1 a2
  go_loopw [11, 12, 25] (fun f u i wr => ∃ k : Nat, i = .int .i64 k ∧ k ≤ L ∧ f = .int .i64 (fnI (fnd b (xs.take k))) ∧ u = .bool (aqB c.i b now (xs.take k)) ∧ Hid (Below W0.heap.size W0 wr)) (fun _ _ i _ => L - (intOf i).toNat)
  case atStart => exact ⟨0, rfl, by omega, by simp [fnd, fnI], by simp [aqB], Lib.hid (Below.refl _ _)⟩
  case round =>
    obtain ⟨k, rfl, hk, rfl, rfl, HW⟩ := hrel
    by_cases hkL : k < L
    · obtain ⟨x, hx⟩ := HAT.out k hkL
      obtain ⟨y, rfl⟩ := rw_some R0.out (by rw [HL.out]; omega)
      have hat := (R0.out.below HW.out).at hx
      have Q1 := Lib.hid (qb_box wr x)
      have hsz : wr.heap.size < (wr.alloc (Cax x)).heap.size := by simp
      have B1 := Lib.hid (show Below W0.heap.size W0 (wr.alloc (Cax x)) from HW.out.alloc HW.out.size _)
      have C1 := Lib.hid (C0.out.keep B1.out (by omega) B1.out.size)
      have HFX := Lib.hid (HFS.out k x hx)
      have HSX := Lib.hid (HAS.out k x hx)
      have HOX := Lib.hid (HOP.out x)
      have HQX := Lib.hid (HQT.out x (List.mem_of_getElem? hx))
      have HFM := Lib.hid (show fm b x = ((x.a == b) && opB x) from rfl)
      have HAM := Lib.hid (show am c.i b now x = ((x.a == b) && qtB c.i x now) from rfl)
      clear hx
      obtain ⟨o, ho⟩ : ∃ o, fnd b (xs.take k) = o := ⟨_, rfl⟩
      obtain ⟨u, hu⟩ : ∃ u, aqB c.i b now (xs.take k) = u := ⟨_, rfl⟩
      obtain ⟨b1, hb1⟩ : ∃ q, opB x = q := ⟨_, rfl⟩
      obtain ⟨b2, hb2⟩ : ∃ q, qtB c.i x now = q := ⟨_, rfl⟩
      rw [ho] at HFX ⊢
      rw [hu] at HSX ⊢
      rw [hb1] at HOX HFM
      rw [hb2] at HQX HAM
      clear ho hu hb1 hb2
      unfold cav Cax at *
      go_upto_region 6 with (refine at_load37 (.tmp 28) rfl rfl (y.add (k * 4)) x rfl hat ?_)
      generalize wr.alloc (.cells #[.int .u32 x.a, .int .i64 x.r, .int .i64 x.d, .int .i64 x.g] 37) = W1 at *
      clear hat
      obtain ⟨q0, q1, q2, q3⟩ := Q1.out.c
      cases he : (x.a == b)
      · have HE := Lib.hid he
        have HV := Lib.hid (show fnd b (xs.take (k + 1)) = o by rw [HFX.out, HFM.out, HE.out]; cases o <;> rfl)
        have HU := Lib.hid (show aqB c.i b now (xs.take (k + 1)) = u by rw [HSX.out, HAM.out, HE.out]; cases u <;> rfl)
        cases u
        · go_wp2_with fail
          go_roundw
          case rel => exact ⟨k + 1, by go_num, by omega, by rw [HV.out], by rw [HU.out], B1⟩
          case measure => simp [intOf]; omega
        · go_wp2_with fail
          go_roundw
          case rel => exact ⟨k + 1, by go_num, by omega, by rw [HV.out], by rw [HU.out], B1⟩
          case measure => simp [intOf]; omega
      · have HE := Lib.hid he
        go_wp2_with fail
        refine (HOX.out _).mono ?_
        rintro e w2 ⟨rfl, hb⟩
        have B2 := Lib.hid (B1.out.trans (hb.mono B1.out.size))
        have Q2 := Lib.hid (Q1.out.below hb)
        have C2 := Lib.hid (C1.out.below hb)
        have hsz2 : wr.heap.size < w2.heap.size := Nat.lt_of_lt_of_le hsz hb.size
        clear hb q0 q1 q2 q3 Q1 C1 B1
        obtain ⟨q0, q1, q2, q3⟩ := Q2.out.c
        obtain ⟨cq0, cq1, cq2, cq3, cq4, cq5, cq6, cq7, cq8⟩ : _ := And.intro C2.out.c0 (And.intro C2.out.c1 (And.intro C2.out.c2 (And.intro C2.out.c3 (And.intro C2.out.c4 (And.intro C2.out.c5 (And.intro C2.out.c6 (And.intro C2.out.c7 C2.out.c8)))))))
        have HU := Lib.hid (show aqB c.i b now (xs.take (k + 1)) = (u || b2) by rw [HSX.out, HAM.out, HE.out]; rfl)
        cases b1
        · have HV := Lib.hid (show fnd b (xs.take (k + 1)) = o by rw [HFX.out, HFM.out]; cases o <;> simp)
          cases u
          · go_wp2_with fail
            refine (HQX.out _).mono ?_
            rintro e w3 ⟨rfl, hb⟩
            have B3 := Lib.hid (B2.out.trans (hb.mono B2.out.size))
            clear hb q0 q1 q2 q3
            go_wp2_with fail
            go_roundw
            case rel => exact ⟨k + 1, by go_num, by omega, by rw [HV.out], by rw [HU.out]; rfl, B3⟩
            case measure => simp [intOf]; omega
          · go_wp2_with fail
            go_roundw
            case rel => exact ⟨k + 1, by go_num, by omega, by rw [HV.out], by rw [HU.out]; rfl, B2⟩
            case measure => simp [intOf]; omega
        · cases o with
          | none =>
            have HV := Lib.hid (show fnd b (xs.take (k + 1)) = some k by rw [HFX.out, HFM.out, HE.out]; rfl)
            dsimp only [fnI]
            cases u
            · go_wp2_with fail
              refine (HQX.out _).mono ?_
              rintro e w3 ⟨rfl, hb⟩
              have B3 := Lib.hid (B2.out.trans (hb.mono B2.out.size))
              clear hb q0 q1 q2 q3
              go_wp2_with fail
              go_roundw
              case rel => exact ⟨k + 1, by go_num, by omega, by rw [HV.out]; rfl, by rw [HU.out]; rfl, B3⟩
              case measure => simp [intOf]; omega
            · go_wp2_with fail
              go_roundw
              case rel => exact ⟨k + 1, by go_num, by omega, by rw [HV.out]; rfl, by rw [HU.out]; rfl, B2⟩
              case measure => simp [intOf]; omega
          | some i =>
            have HV := Lib.hid (show fnd b (xs.take (k + 1)) = some i by rw [HFX.out]; rfl)
            have hi0 : decide ((i : Int) < 0) = false := decide_eq_false (by omega)
            dsimp only [fnI]
            cases u
            · go_wp2_with fail
              refine (HQX.out _).mono ?_
              rintro e w3 ⟨rfl, hb⟩
              have B3 := Lib.hid (B2.out.trans (hb.mono B2.out.size))
              clear hb q0 q1 q2 q3
              go_wp2_with fail
              go_roundw
              case rel => exact ⟨k + 1, by go_num, by omega, by rw [HV.out]; rfl, by rw [HU.out]; rfl, B3⟩
              case measure => simp [intOf]; omega
            · go_wp2_with fail
              go_roundw
              case rel => exact ⟨k + 1, by go_num, by omega, by rw [HV.out]; rfl, by rw [HU.out]; rfl, B2⟩
              case measure => simp [intOf]; omega
    · obtain rfl : k = L := by omega
      have hfull : xs.take k = xs := List.take_of_length_le (by rw [HL.out]; exact Nat.le_refl _)
      rw [hfull]
      obtain ⟨wo, rfl⟩ : ∃ wo, wo = wr := ⟨_, rfl⟩
      have RW := Lib.hid (R0.out.below HW.out)
      have AM := Lib.hid (A0.out.below HW.out)
      have CW := Lib.hid (C0.out.below HW.out)
      have BW := Lib.hid (HB0.out.trans (HW.out.mono HB0.out.size))
      have hsw : w.heap.size + 1 < wo.heap.size := Nat.lt_of_lt_of_le hs0 HW.out.size
      clear hfull HW R0 A0 C0 HB0 hs0 HFS HAS
      have ON := Lib.hid (World.ownsRow_nil wo wo.heap.size 37 4)
      have hlen0 : 0 + k ≤ 1000000000000 := by omega
      obtain ⟨a0, a1, a2⟩ := AM.out.c
      go_upto_region 10 with fail
      go_wp2_with (at_builtin; refine wpList_append_rw tA _ rfl (.const (.slice none 0 0)) (.tmp 57) rfl wo.heap.size (.slice none 0 0) 0 [] (by simp [Act.eval]) ON.out A k cap xs (by simp [Act.eval, Act.put]) HL.out.symm RW.out hlen0 (Nat.le_refl _) ?_)
      intro v15 W5 ho15 hg5
      have hb5 : Below wo.heap.size wo W5 := (Below.refl _ wo).grown hg5 (Nat.le_refl _) (fun k e => by cases e)
      have B5 := Lib.hid (BW.out.trans (hb5.mono BW.out.size))
      have C5 := Lib.hid (CW.out.below hb5)
      have AM5 := Lib.hid (AM.out.below hb5)
      have hsb : w.heap.size ≤ wo.heap.size := by omega
      have hs5 : wo.heap.size ≤ W5.heap.size := hb5.size
      clear hb5 hg5 ON a0 a1 a2 CW AM BW RW
      have O5 := Lib.hid (show W5.ownsRow wo.heap.size 37 4 v15 k (eA.cs xs) from ho15)
      clear ho15
      obtain ⟨a0, a1, a2⟩ := AM5.out.c
      go_upto_region 12 with fail
      have h8 := H8.out
      clear H8 a0 a1 a2 o0 o1
      generalize doO c.i now a xs = s at *
      generalize a.o % 8 = ov at *
      cases hof : fnd b xs with
      | none =>
        have HN := Lib.hid fun ck tg => st_none (ck := ck) (tg := tg) (now := now) hof
        clear hof
        dsimp only [fnI]
        rcases h8 with rfl | rfl | rfl | rfl
        · have HT := Lib.hid (show s = ([], 7) by rw [HD2.out rfl, HN.out])
          go_wp2_with fail
          go_ret2
          rw [HT.out]
          exact out_no w W5 7 B5.out
        · have HT := Lib.hid (show s = ([], 7) by rw [HD3.out rfl, HN.out])
          go_wp2_with fail
          go_ret2
          rw [HT.out]
          exact out_no w W5 7 B5.out
        · have HT := Lib.hid (show s = ([], 7) by rw [HD4.out rfl, HN.out])
          go_wp2_with fail
          go_ret2
          rw [HT.out]
          exact out_no w W5 7 B5.out
        · have HT := Lib.hid (show s = ([], 7) by rw [HD5.out rfl, HN.out])
          go_wp2_with fail
          go_ret2
          rw [HT.out]
          exact out_no w W5 7 B5.out
      | some i =>
        obtain ⟨x, hx, -, -⟩ := fnd_at hof
        have hik : i < k := by have := fnd_lt hof; rw [HL.out] at this; exact this
        have HN := Lib.hid fun ck tg => st_some (ck := ck) (tg := tg) (now := now) hof hx
        have HX := Lib.hid hx
        obtain ⟨g, c5, rfl, hLc⟩ := own_g O5.out (by omega)
        have hgB := O5.out.lt g rfl
        obtain ⟨f2, f3⟩ := own_f O5.out (by rw [HL.out]; exact hln) hx
        have z3 := O5.out.frozenAt (i * 4 + 3)
        clear hof hx
        dsimp only [fnI]
        have hi0 : decide ((i : Int) < 0) = false := decide_eq_false (by omega)
        have HLS := Lib.hid fun y => show (xs.set i y).length = k by rw [List.length_set, HL.out]
        rcases h8 with rfl | rfl | rfl | rfl
        · cases hg : (x.g == 0)
          · have HG := Lib.hid hg
            have hg' : (x.g != 0) = true := by rw [bne, hg]; rfl
            clear hg
            have HT := Lib.hid (show s = ([], 8) by rw [HD2.out rfl, HN.out, if_neg (by rw [HG.out]; simp)])
            go_wp2_with fail
            go_ret2
            rw [HT.out]
            exact out_no w W5 8 B5.out
          · have HG := Lib.hid hg
            have hg' : (x.g != 0) = false := by rw [bne, hg]; rfl
            clear hg
            have HT := Lib.hid (show s = (xs.set i ⟨x.a, x.r, x.d, 1⟩, 0) by rw [HD2.out rfl, HN.out, if_pos HG.out, mv_1])
            obtain ⟨o6, g6⟩ := O5.out.stored (i * 4 + 3) (.int .i64 1)
            rw [cs_set3 xs i x 1 HX.out] at o6
            have b6 := B5.out.grown g6 B5.out.size (fun k' e => by injection e with e; omega)
            have O6 := Lib.hid (own_keep o6 ((Below.refl _ _).alloc (Nat.le_refl _) (.cells #[.int .i64 0, .int .i64 0, .int .i64 1, .int .i64 2, .int .i64 5, .int .i64 4] 35)))
            have B6 := Lib.hid (b6.alloc b6.size (.cells #[.int .i64 0, .int .i64 0, .int .i64 1, .int .i64 2, .int .i64 5, .int .i64 4] 35))
            clear o6 g6 b6
            go_upto_region 34 with fail
            generalize (W5.setCell ⟨g, i * 4 + 3, none⟩ (.int .i64 1)).alloc (.cells #[.int .i64 0, .int .i64 0, .int .i64 1, .int .i64 2, .int .i64 5, .int .i64 4] 35) = W6 at *
            clear f2 f3 z3
            go_wp2_with fail
            go_ret2
            rw [HT.out]
            exact out_yes (by rw [HLS.out]; exact O6.out) (by rw [HLS.out]; omega) B6.out
        · cases hg : (x.g == 0)
          · have HG := Lib.hid hg
            have hg' : (x.g != 0) = true := by rw [bne, hg]; rfl
            clear hg
            have HT := Lib.hid (show s = ([], 8) by rw [HD3.out rfl, HN.out, if_neg (by rw [HG.out]; simp)])
            go_wp2_with fail
            go_ret2
            rw [HT.out]
            exact out_no w W5 8 B5.out
          · have HG := Lib.hid hg
            have hg' : (x.g != 0) = false := by rw [bne, hg]; rfl
            clear hg
            have HT := Lib.hid (show s = (xs.set i ⟨x.a, x.r, now, 2⟩, 0) by rw [HD3.out rfl, HN.out, if_pos HG.out, HMO.out 2 x (by decide) (by decide)])
            obtain ⟨o6, g6⟩ := O5.out.stored (i * 4 + 3) (.int .i64 2)
            rw [cs_set3 xs i x 2 HX.out] at o6
            have b6 := B5.out.grown g6 B5.out.size (fun k' e => by injection e with e; omega)
            have O6 := Lib.hid (own_keep o6 ((Below.refl _ _).alloc (Nat.le_refl _) (.cells #[.int .i64 0, .int .i64 0, .int .i64 1, .int .i64 2, .int .i64 5, .int .i64 4] 35)))
            have B6 := Lib.hid (b6.alloc b6.size (.cells #[.int .i64 0, .int .i64 0, .int .i64 1, .int .i64 2, .int .i64 5, .int .i64 4] 35))
            clear o6 g6 b6
            go_upto_region 34 with fail
            generalize (W5.setCell ⟨g, i * 4 + 3, none⟩ (.int .i64 2)).alloc (.cells #[.int .i64 0, .int .i64 0, .int .i64 1, .int .i64 2, .int .i64 5, .int .i64 4] 35) = W6 at *
            clear f2 f3 z3
            have hx6 : (xs.set i (⟨x.a, x.r, x.d, 2⟩ : Ca))[i]? = some ⟨x.a, x.r, x.d, 2⟩ := by rw [List.getElem?_set_self (by rw [HL.out]; exact hik)]
            obtain ⟨f2, -⟩ := own_f O6.out (by rw [HLS.out]; exact hln) hx6
            have z2 := O6.out.frozenAt (i * 4 + 2)
            obtain ⟨o7, g7⟩ := O6.out.stored (i * 4 + 2) (.int .i64 now)
            rw [cs_set2 _ i _ now hx6, List.set_set] at o7
            have O7 := Lib.hid o7
            have B7 := Lib.hid (B6.out.grown g7 B6.out.size (fun k' e => by injection e with e; omega))
            clear o7 g7 hx6
            go_wp2_with fail
            go_ret2
            rw [HT.out]
            exact out_yes (by rw [HLS.out]; exact O7.out) (by rw [HLS.out]; omega) B7.out
        · cases hg : (x.g == 1)
          · have HG := Lib.hid hg
            have hg' : (x.g != 1) = true := by rw [bne, hg]; rfl
            clear hg
            have HT := Lib.hid (show s = ([], 8) by rw [HD4.out rfl, HN.out, if_neg (by rw [HG.out]; simp)])
            go_wp2_with fail
            go_ret2
            rw [HT.out]
            exact out_no w W5 8 B5.out
          · have HG := Lib.hid hg
            have hg' : (x.g != 1) = false := by rw [bne, hg]; rfl
            clear hg
            have HT := Lib.hid (show s = (xs.set i ⟨x.a, x.r, now, 5⟩, 0) by rw [HD4.out rfl, HN.out, if_pos HG.out, HMO.out 5 x (by decide) (by decide)])
            obtain ⟨o6, g6⟩ := O5.out.stored (i * 4 + 3) (.int .i64 5)
            rw [cs_set3 xs i x 5 HX.out] at o6
            have b6 := B5.out.grown g6 B5.out.size (fun k' e => by injection e with e; omega)
            have O6 := Lib.hid (own_keep o6 ((Below.refl _ _).alloc (Nat.le_refl _) (.cells #[.int .i64 0, .int .i64 0, .int .i64 1, .int .i64 2, .int .i64 5, .int .i64 4] 35)))
            have B6 := Lib.hid (b6.alloc b6.size (.cells #[.int .i64 0, .int .i64 0, .int .i64 1, .int .i64 2, .int .i64 5, .int .i64 4] 35))
            clear o6 g6 b6
            go_upto_region 34 with fail
            generalize (W5.setCell ⟨g, i * 4 + 3, none⟩ (.int .i64 5)).alloc (.cells #[.int .i64 0, .int .i64 0, .int .i64 1, .int .i64 2, .int .i64 5, .int .i64 4] 35) = W6 at *
            clear f2 f3 z3
            have hx6 : (xs.set i (⟨x.a, x.r, x.d, 5⟩ : Ca))[i]? = some ⟨x.a, x.r, x.d, 5⟩ := by rw [List.getElem?_set_self (by rw [HL.out]; exact hik)]
            obtain ⟨f2, -⟩ := own_f O6.out (by rw [HLS.out]; exact hln) hx6
            have z2 := O6.out.frozenAt (i * 4 + 2)
            obtain ⟨o7, g7⟩ := O6.out.stored (i * 4 + 2) (.int .i64 now)
            rw [cs_set2 _ i _ now hx6, List.set_set] at o7
            have O7 := Lib.hid o7
            have B7 := Lib.hid (B6.out.grown g7 B6.out.size (fun k' e => by injection e with e; omega))
            clear o7 g7 hx6
            go_wp2_with fail
            go_ret2
            rw [HT.out]
            exact out_yes (by rw [HLS.out]; exact O7.out) (by rw [HLS.out]; omega) B7.out
        · have HT := Lib.hid (show s = (xs.set i ⟨x.a, x.r, now, 4⟩, 0) by rw [HD5.out rfl, HN.out, if_pos rfl, HMO.out 4 x (by decide) (by decide)])
          obtain ⟨o6, g6⟩ := O5.out.stored (i * 4 + 3) (.int .i64 4)
          rw [cs_set3 xs i x 4 HX.out] at o6
          have b6 := B5.out.grown g6 B5.out.size (fun k' e => by injection e with e; omega)
          have O6 := Lib.hid (own_keep o6 ((Below.refl _ _).alloc (Nat.le_refl _) (.cells #[.int .i64 0, .int .i64 0, .int .i64 1, .int .i64 2, .int .i64 5, .int .i64 4] 35)))
          have B6 := Lib.hid (b6.alloc b6.size (.cells #[.int .i64 0, .int .i64 0, .int .i64 1, .int .i64 2, .int .i64 5, .int .i64 4] 35))
          clear o6 g6 b6
          go_upto_region 34 with fail
          generalize (W5.setCell ⟨g, i * 4 + 3, none⟩ (.int .i64 4)).alloc (.cells #[.int .i64 0, .int .i64 0, .int .i64 1, .int .i64 2, .int .i64 5, .int .i64 4] 35) = W6 at *
          clear f2 f3 z3
          have hx6 : (xs.set i (⟨x.a, x.r, x.d, 4⟩ : Ca))[i]? = some ⟨x.a, x.r, x.d, 4⟩ := by rw [List.getElem?_set_self (by rw [HL.out]; exact hik)]
          obtain ⟨f2, -⟩ := own_f O6.out (by rw [HLS.out]; exact hln) hx6
          have z2 := O6.out.frozenAt (i * 4 + 2)
          obtain ⟨o7, g7⟩ := O6.out.stored (i * 4 + 2) (.int .i64 now)
          rw [cs_set2 _ i _ now hx6, List.set_set] at o7
          have O7 := Lib.hid o7
          have B7 := Lib.hid (B6.out.grown g7 B6.out.size (fun k' e => by injection e with e; omega))
          clear o7 g7 hx6
          go_wp2_with fail
          go_ret2
          rw [HT.out]
          exact out_yes (by rw [HLS.out]; exact O7.out) (by rw [HLS.out]; omega) B7.out
end Go.Proofs.Ytmaaniokfpkbjaa
