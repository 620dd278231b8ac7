/-
  The contract of (Say).split: a row of up to five texts, no longer together than the drawn one and a hundred bytes. Conditions: numbers in their bounds; the library's table of powers of ten lies as its text lays it.
-/
import Derived.Test.YtegbdagmnibfmaaDoorRow
import Derived.Deep.CutRange
set_option linter.unusedSimpArgs false
set_option linter.unusedVariables false
namespace Go.Proofs.YtegbdagmnibfmaaDoor
open Go.RowKit

set_option maxRecDepth 100000 in
set_option maxHeartbeats 8000000 in
theorem split_any (y : Sy) (w : World) (h : Sok y) (ht : Tab w) :
    Calls Tryd.prog 9 #[syv y] w fun e w' => ∃ v, e = .returned v ∧ Below w.heap.size w w' ∧ Rt (y.t.size + 100) v w' := by
  have B0 := Lib.hid ((Below.refl w.heap.size w).alloc (Nat.le_refl _) (Syx y))
  have Y0 := Lib.hid (sy_box w y)
  have HEV := Lib.hid fun W => event_any y W h
  obtain ⟨⟨xa0, xa1⟩, ⟨xb0, xb1, xn0, xn1⟩, xo, xs6, xk⟩ := (ev_valid y h).bd
  have HT := Lib.hid ht
  have s0 := h.sp0
  have s1 := h.sp1
  have hts := h.ts
  obtain ⟨x, hx⟩ : ∃ x, evS y = x := ⟨_, rfl⟩
  rw [hx] at HEV xa0 xa1 xb0 xb1 xn0 xn1 xo xs6 xk
  have HTX := Lib.hid fun W (h : Tab W) => Ad.text_any x.a W xa0 xa1 h
  have HBT := Lib.hid fun W (h : Tab W) => Ad.blockText_any x.b x.n W xb0 xb1 xn0 xn1 h
  have HNO := Lib.hid fun W => Mc.none_any x.c0 x.c1 x.c2 x.c3 x.c4 x.c5 W
  have HMT := Lib.hid fun W => Mc.text_six x.c0 x.c1 x.c2 x.c3 x.c4 x.c5 W xs6
  have d1 := Ad.textL_len x.a xa1
  have d2 := Ad.textL_len x.b xb1
  have d3 := Ad.dig_len (n := x.n) (by omega)
  obtain ⟨T, hT⟩ : ∃ T : ByteArray, T = ⟨(Ad.textL x.a).toArray⟩ := ⟨_, rfl⟩
  have hTs : T.size ≤ 15 := by rw [hT]; show (Ad.textL x.a).toArray.size ≤ 15; simpa using d1
  rw [← hT] at HTX
  obtain ⟨TB, hTB⟩ : ∃ T : ByteArray, T = ⟨(Ad.textL x.b ++ 47 :: Ad.dig x.n).toArray⟩ := ⟨_, rfl⟩
  have hTBs : TB.size ≤ 19 := by rw [hTB]; show (Ad.textL x.b ++ 47 :: Ad.dig x.n).toArray.size ≤ 19; simp; omega
  rw [← hTB] at HBT
  obtain ⟨TM, hTM⟩ : ∃ T : ByteArray, T = mt x.c0 x.c1 x.c2 x.c3 x.c4 x.c5 := ⟨_, rfl⟩
  have hTMs : TM.size = 17 := by rw [hTM, Lib.size_eq]; exact mt_len x.c0 x.c1 x.c2 x.c3 x.c4 x.c5
  rw [show Mc.strOf (Mc.txg 58 (fun _ => false) [x.c0, x.c1, x.c2, x.c3, x.c4, x.c5] 6) = TM from hTM.symm] at HMT
  obtain ⟨NN, hNN⟩ : ∃ b, Mc.eq6 x.c0 x.c1 x.c2 x.c3 x.c4 x.c5 0 0 0 0 0 0 = b := ⟨_, rfl⟩
  rw [hNN] at HNO
  have hbd := xk.bd
  obtain ⟨kk, hkk⟩ : ∃ k, x.k = k := ⟨_, rfl⟩
  have HXK := Lib.hid hkk
  rw [hkk] at hbd
  obtain ⟨q0, q1⟩ := hbd
  have hKs := nm_size q0 q1
  obtain ⟨K, hK⟩ : ∃ K, nm kk = K := ⟨_, rfl⟩
  have HKN := Lib.hid hK
  rw [hK] at hKs
  have HSZ := Lib.hid (And.intro hTs (And.intro hTBs (And.intro hTMs (And.intro hKs xo))))
  unfold Syx at *
  unfold syv at *
  clear h ht hx hT hTB hTM hNN hkk hK hTs hTBs hTMs hKs d1 d2 d3 xa0 xa1 xb0 xb1 xn0 xn1 xo xs6 xk
  go_enter Tryd.func9, Tryd.ntmps9
  go_wp2_with fail
  refine (HEV.out _).mono ?_
  rintro e w1 ⟨rfl, hb⟩
  have Y1 := Lib.hid (Y0.out.belowY hb)
  have BB := Lib.hid (B0.out.trans (hb.mono B0.out.size))
  have Z1 := Lib.hid (ev_box w1 zev)
  have BC := Lib.hid (BB.out.alloc BB.out.size (Evx zev))
  have YC := Lib.hid (Y1.out.belowY ((Below.refl _ w1).alloc (Nat.le_refl _) (Evx zev)))
  have LB := Lib.hid BB.out.size
  have LY := Lib.hid (Cx.lt Y1.out)
  clear hb
  go_upto_region 2 with (refine at_store41 _ _ w1.heap.size zev x Z1.out rfl rfl rfl rfl ?_; intro w2 E2 C2 G2; have B2 := Lib.hid (BC.out.trans (C2.out _ LB.out)); have Y2 := Lib.hid (YC.out.keep (C2.out _ (Nat.le_refl _)) LY.out))
  have LE := Lib.hid E2.out.ltE
  have LZ := Lib.hid (Cx.lt Y2.out)
  refine wp_region_below [wF, fx (.pointer (some ⟨w1.heap.size, 0, none⟩)), fx (.int .i64 kk), pF kk, fx (.string K), fx (.pointer (some ⟨w1.heap.size, 1, none⟩)), fx (.pointer (some ⟨w1.heap.size, 1, none⟩)), fx (.int .u32 x.a), fx (.string T), rR w2 K T, rR w2 K T]
    (by kernel_rfl) (by kernel_rfl) (by kernel_rfl) ?_ ?_ ?_
  · simp only [List.mem_cons, List.not_mem_nil, or_false]
    rintro φ (rfl | rfl | rfl | rfl | rfl | rfl | rfl | rfl | rfl | rfl | rfl)
    all_goals first | exact stable_fx _ | exact stable_fr _ _ | exact stable_wF | exact stable_pF _ | exact stable_rR _ _ _
  · refine OgSteps.cons ?_ (OgSteps.cons ?_ (OgSteps.cons ?_ (OgSteps.cons ?_ (OgSteps.cons ?_ (OgSteps.cons ?_ (OgSteps.cons ?_ (OgSteps.cons ?_ (OgSteps.cons ?_ (OgSteps.cons ?_ (OgSteps.cons ?_ (OgSteps.nil)))))))))))
    · refine OgStep.calls ?_ ?_
      · rfl
      intro u W hS hp
      refine ⟨13, #[], ?_, words_any W⟩
      simp only [ogMk, Act.put, List.setIfInBounds_toArray, List.set_cons_zero, List.set_cons_succ, Nat.zero_add, Nat.reduceAdd, List.take_succ_cons, List.take_zero, List.drop_succ_cons, List.drop_zero]
      simp [execOp, Act.eval, go_sem]
    · refine OgStep.pure ?_ ?_
      · rfl
      intro u W hS hp
      refine ⟨.pointer (some ⟨w1.heap.size, 0, none⟩), ?_, rfl⟩
      simp only [ogMk, Act.put, List.setIfInBounds_toArray, List.set_cons_zero, List.set_cons_succ, Nat.zero_add, Nat.reduceAdd, List.take_succ_cons, List.take_zero, List.drop_succ_cons, List.drop_zero]
      simp [execOp, Act.eval, go_sem]
    · refine OgStep.pure ?_ ?_
      · rfl
      intro u W hS hp
      have h1 : u 1 = .pointer (some ⟨w1.heap.size, 0, none⟩) := hp ⟨1, .data⟩ (by simp) rfl
      have EE := E2.out.belowX hS
      have k0 := EE.key 0 _ rfl
      rw [HXK.out] at k0
      refine ⟨.int .i64 kk, ?_, rfl⟩
      simp only [ogMk, Act.put, List.setIfInBounds_toArray, List.set_cons_zero, List.set_cons_succ, Nat.zero_add, Nat.reduceAdd, List.take_succ_cons, List.take_zero, List.drop_succ_cons, List.drop_zero]
      simp [execOp, Act.eval, go_sem, h1, k0]
    · refine OgStep.pure ?_ ?_
      · rfl
      intro u W hS hp
      obtain ⟨b0, h0, C0⟩ : wF (u 0) W := hp ⟨0, .data⟩ (by simp) rfl
      have h2 : u 2 = .int .i64 kk := hp ⟨2, .data⟩ (by simp) rfl
      refine ⟨.pointer (some ⟨b0, kk.toNat, none⟩), ?_, ⟨b0, rfl, C0.key _ _ (wdl_at q0 q1)⟩⟩
      simp only [ogMk, Act.put, List.setIfInBounds_toArray, List.set_cons_zero, List.set_cons_succ, Nat.zero_add, Nat.reduceAdd, List.take_succ_cons, List.take_zero, List.drop_succ_cons, List.drop_zero]
      simp [execOp, Act.eval, go_sem, h0, h2, q0, q1]
    · refine OgStep.pure ?_ ?_
      · rfl
      intro u W hS hp
      obtain ⟨b0, h3, C0⟩ : pF kk (u 3) W := hp ⟨3, .data⟩ (by simp) rfl
      rw [HKN.out] at C0
      refine ⟨.string K, ?_, rfl⟩
      simp only [ogMk, Act.put, List.setIfInBounds_toArray, List.set_cons_zero, List.set_cons_succ, Nat.zero_add, Nat.reduceAdd, List.take_succ_cons, List.take_zero, List.drop_succ_cons, List.drop_zero]
      simp [execOp, Act.eval, go_sem, h3, C0]
    · refine OgStep.pure ?_ ?_
      · rfl
      intro u W hS hp
      refine ⟨.pointer (some ⟨w1.heap.size, 1, none⟩), ?_, rfl⟩
      simp only [ogMk, Act.put, List.setIfInBounds_toArray, List.set_cons_zero, List.set_cons_succ, Nat.zero_add, Nat.reduceAdd, List.take_succ_cons, List.take_zero, List.drop_succ_cons, List.drop_zero]
      simp [execOp, Act.eval, go_sem]
    · refine OgStep.pure ?_ ?_
      · rfl
      intro u W hS hp
      have h5 : u 5 = .pointer (some ⟨w1.heap.size, 1, none⟩) := hp ⟨5, .data⟩ (by simp) rfl
      refine ⟨.pointer (some ⟨w1.heap.size, 1, none⟩), ?_, rfl⟩
      simp only [ogMk, Act.put, List.setIfInBounds_toArray, List.set_cons_zero, List.set_cons_succ, Nat.zero_add, Nat.reduceAdd, List.take_succ_cons, List.take_zero, List.drop_succ_cons, List.drop_zero]
      simp [execOp, Act.eval, go_sem, h5]
    · refine OgStep.pure ?_ ?_
      · rfl
      intro u W hS hp
      have h6 : u 6 = .pointer (some ⟨w1.heap.size, 1, none⟩) := hp ⟨6, .data⟩ (by simp) rfl
      have EE := E2.out.belowX hS
      have k1 := EE.key 1 _ rfl
      refine ⟨.int .u32 x.a, ?_, rfl⟩
      simp only [ogMk, Act.put, List.setIfInBounds_toArray, List.set_cons_zero, List.set_cons_succ, Nat.zero_add, Nat.reduceAdd, List.take_succ_cons, List.take_zero, List.drop_succ_cons, List.drop_zero]
      simp [execOp, Act.eval, go_sem, h6, k1]
    · refine OgStep.calls ?_ ?_
      · rfl
      intro u W hS hp
      have h7 : u 7 = .int .u32 x.a := hp ⟨7, .data⟩ (by simp) rfl
      refine ⟨16, #[.int .u32 x.a], ?_, calls_fx (HTX.out W (HT.out.below (B2.out.trans (hS.mono B2.out.size)))) rfl⟩
      simp only [ogMk, Act.put, List.setIfInBounds_toArray, List.set_cons_zero, List.set_cons_succ, Nat.zero_add, Nat.reduceAdd, List.take_succ_cons, List.take_zero, List.drop_succ_cons, List.drop_zero]
      simp [execOp, Act.eval, go_sem, h7]
    · refine OgStep.made ?_ ?_
      · rfl
      intro u W hS hp
      have h4 : u 4 = .string K := hp ⟨4, .data⟩ (by simp) rfl
      have h8 : u 8 = .string T := hp ⟨8, .data⟩ (by simp) rfl
      refine ⟨.slice (some ⟨W.heap.size, 0, none⟩) 2 2, _, ?_, (Below.refl _ W).alloc (Nat.le_refl _) _, rR_new w2 W K T hS.size⟩
      simp only [ogMk, Act.put, List.setIfInBounds_toArray, List.set_cons_zero, List.set_cons_succ, Nat.zero_add, Nat.reduceAdd, List.take_succ_cons, List.take_zero, List.drop_succ_cons, List.drop_zero]
      simp [execOp, Act.eval, go_sem, h4, h8]
    · refine OgStep.pure ?_ ?_
      · rfl
      intro u W hS hp
      obtain ⟨g, h9, hg, ho⟩ : rR w2 K T (u 9) W := hp ⟨9, .data⟩ (by simp) rfl
      refine ⟨.slice (some ⟨g, 0, none⟩) 2 2, ?_, ⟨g, rfl, hg, ho⟩⟩
      simp only [ogMk, Act.put, List.setIfInBounds_toArray, List.set_cons_zero, List.set_cons_succ, Nat.zero_add, Nat.reduceAdd, List.take_succ_cons, List.take_zero, List.drop_succ_cons, List.drop_zero]
      simp [execOp, Act.eval, go_sem, h9]
  · intro u W hS hF
    obtain ⟨g, h10, hg, ho⟩ : rR w2 K T (u 10) W := hF 10 (by decide)
    have e1 : u 1 = .pointer (some ⟨w1.heap.size, 0, none⟩) := hF 1 (by decide)
    have e2 : u 2 = .int .i64 kk := hF 2 (by decide)
    have e4 : u 4 = .string K := hF 4 (by decide)
    have e5 : u 5 = .pointer (some ⟨w1.heap.size, 1, none⟩) := hF 5 (by decide)
    have e6 : u 6 = .pointer (some ⟨w1.heap.size, 1, none⟩) := hF 6 (by decide)
    have e7 : u 7 = .int .u32 x.a := hF 7 (by decide)
    have e8 : u 8 = .string T := hF 8 (by decide)
    simp only [ogMk, Act.put, List.setIfInBounds_toArray, List.set_cons_zero, List.set_cons_succ, Nat.zero_add, Nat.reduceAdd, List.take_succ_cons, List.take_zero, List.drop_succ_cons, List.drop_zero]
    rw [e1, e2, e4, e5, e6, e7, e8, h10]
    clear e1 e2 e4 e5 e6 e7 e8 h10 hF
    have D3 := Lib.hid hS
    have O3 := Lib.hid ho
    have HG := Lib.hid hg
    have HTOT := Lib.hid (show tot [.string K, .string T] ≤ 22 by obtain ⟨a1, a2, a3, a4, a5⟩ := HSZ.out; simp [tot, szv]; omega)
    have HSTR := Lib.hid (show Str [.string K, .string T] from fun u hu => by simp at hu; rcases hu with h | h <;> exact ⟨_, h⟩)
    clear hS hg ho
    have k0 := (E2.out.keep D3.out LE.out).key 0 _ rfl
    rw [HXK.out] at k0
    cases h3 : (kk == 3)
    · go_upto_if 24 with fail
      go_cut [4] from 17 to 29 (fun v wr => ∃ g n c, v = .slice (some ⟨g, 0, none⟩) n c ∧ Hid (RL w2 41 2 2 (.slice (some ⟨g, 0, none⟩) n c) wr))
      case first =>
        cases h4 : (kk == 4)
        · go_wp2_with fail
          go_meet
          exact ⟨_, _, _, rfl, Lib.hid ⟨g, 2, 2, _, rfl, by omega, by omega, HG.out, O3.out, HSTR.out, by have := HTOT.out; omega, D3.out⟩⟩
        · have k9 := (E2.out.keep D3.out LE.out).key 9 _ rfl
          have k10 := (E2.out.keep D3.out LE.out).key 10 _ rfl
          go_wp2_with fail
          refine (HBT.out _ (HT.out.below (B2.out.trans (D3.out.mono B2.out.size)))).mono ?_
          rintro e w5 ⟨rfl, hb⟩
          have O5 := Lib.hid (own_keep O3.out hb)
          have D5 := Lib.hid (D3.out.trans (hb.mono D3.out.size))
          have c1 := O5.out.cellAt 1 (by omega)
          simp only [List.getElem?_cons_succ, List.getElem?_cons_zero] at c1
          have f1 := O5.out.frozenAt 1
          clear hb k9 k10
          have HRL := Lib.hid (RL.mono (rl_set 1 (.string TB) (lo := 2) (hi := 2) (by omega) (by omega) HG.out O5.out HSTR.out HTOT.out D5.out ⟨_, rfl⟩) (show 22 + szv (.string TB) ≤ 41 by have := HSZ.out.2.1; simp [szv]; omega) (Nat.le_refl _) (Nat.le_refl _))
          go_wp2_with fail
          go_meet
          exact ⟨_, _, _, rfl, HRL⟩
      case rest =>
        obtain ⟨g4, n4, c4, rfl, hq⟩ := hcut
        obtain ⟨hlo4, hhi4, hg4, xs4, ho4, hs4, ht4, hd4⟩ := hq.out.parts
        have O4 := Lib.hid ho4
        have D4 := Lib.hid hd4
        have Q4 := Lib.hid (And.intro hg4 (And.intro hs4 ht4))
        clear hq ho4 hd4 hg4 hs4 ht4 k0
        have k0 := (E2.out.keep D4.out LE.out).key 0 _ rfl
        rw [HXK.out] at k0
        go_upto_if 32 with fail
        go_cut [4] from 30 to 50 (fun v wr => ∃ g n c, v = .slice (some ⟨g, 0, none⟩) n c ∧ Hid (RL w2 66 2 4 (.slice (some ⟨g, 0, none⟩) n c) wr))
        case first =>
          cases h1 : (kk == 1)
          · go_wp2_with fail
            go_meet
            exact ⟨_, _, _, rfl, Lib.hid ⟨g4, n4, c4, _, rfl, by omega, by omega, Q4.out.1, O4.out, Q4.out.2.1, by have := Q4.out.2.2; omega, D4.out⟩⟩
          · have k2 := (E2.out.keep D4.out LE.out).key 2 _ rfl
            have HWH := Lib.hid D4.out.size
            go_wp2_with (at_builtin; refine wpList_append1 Tryd.underlying27 info9 rfl (by omega) _ rfl (.tmp 33) (.tmp 37) rfl w2.heap.size _ n4 _ (by simp [Act.eval, Act.put]) (O4.out.alloc _) wc.heap.size 1 (.string x.o) (by simp [Act.eval, Act.put]) (by simp) rfl (by omega) (by have := D4.out.size; simp; omega) ?_)
            intro g5 c5 w5 hown hgrow hat hlt
            have R5 := Lib.hid (rl_app (by omega) (by omega) Q4.out.1 Q4.out.2.1 Q4.out.2.2 D4.out ⟨_, rfl⟩ hown hgrow hat)
            clear hown hgrow hat hlt k2 k0
            obtain ⟨hlo6, hhi6, hg6, xs6, ho6, hs6, ht6, hd6⟩ := R5.out.parts
            have D6 := Lib.hid hd6
            clear ho6 hs6 ht6 hd6 hg6 hlo6 hhi6
            have m0 := (E2.out.keep D6.out LE.out).key 3 _ rfl
            have m1 := (E2.out.keep D6.out LE.out).key 4 _ rfl
            have m2 := (E2.out.keep D6.out LE.out).key 5 _ rfl
            have m3 := (E2.out.keep D6.out LE.out).key 6 _ rfl
            have m4 := (E2.out.keep D6.out LE.out).key 7 _ rfl
            have m5 := (E2.out.keep D6.out LE.out).key 8 _ rfl
            go_wp2_with fail
            refine (HNO.out _).mono ?_
            rintro e w7 ⟨rfl, hb⟩
            have R7 := Lib.hid (R5.out.keep hb)
            have D7 := Lib.hid (D6.out.trans (hb.mono D6.out.size))
            clear hb m0 m1 m2 m3 m4 m5
            cases NN
            · have m0 := (E2.out.keep D7.out LE.out).key 3 _ rfl
              have m1 := (E2.out.keep D7.out LE.out).key 4 _ rfl
              have m2 := (E2.out.keep D7.out LE.out).key 5 _ rfl
              have m3 := (E2.out.keep D7.out LE.out).key 6 _ rfl
              have m4 := (E2.out.keep D7.out LE.out).key 7 _ rfl
              have m5 := (E2.out.keep D7.out LE.out).key 8 _ rfl
              go_wp2_with fail
              refine (HMT.out _).mono ?_
              rintro e w8 ⟨rfl, hb⟩
              have R8 := Lib.hid (R7.out.keep hb)
              clear hb m0 m1 m2 m3 m4 m5
              obtain ⟨hlo8, hhi8, hg8, xs8, ho8, hs8, ht8, hd8⟩ := R8.out.parts
              have O8 := Lib.hid ho8
              have D8 := Lib.hid hd8
              have Q8 := Lib.hid (And.intro hg8 (And.intro hs8 ht8))
              clear ho8 hd8 hg8 hs8 ht8
              go_wp2_with (at_builtin; refine wpList_append1 Tryd.underlying27 info9 rfl (by omega) _ rfl (.tmp 44) (.tmp 49) rfl w2.heap.size _ (n4 + 1) _ (by simp [Act.eval, Act.put]) (O8.out.alloc _) w8.heap.size 1 (.string TM) (by simp [Act.eval, Act.put]) (by simp) rfl (by omega) (by have := D8.out.size; simp; omega) ?_)
              intro g9 c9 w9 hown hgrow hat hlt
              have R9 := Lib.hid (rl_app hlo8 hhi8 Q8.out.1 Q8.out.2.1 Q8.out.2.2 D8.out ⟨_, rfl⟩ hown hgrow hat)
              clear hown hgrow hat hlt
              go_wp2_with fail
              go_meet
              exact ⟨_, _, _, rfl, Lib.hid (RL.mono R9.out (show 41 + szv (.string x.o) + szv (.string TM) ≤ 66 by have := HSZ.out.2.2.1; have := HSZ.out.2.2.2.2; simp [szv]; omega) (by omega) (by omega))⟩
            · go_wp2_with fail
              go_meet
              exact ⟨_, _, _, rfl, Lib.hid (RL.mono R7.out (show 41 + szv (.string x.o) ≤ 66 by have := HSZ.out.2.2.2.2; simp [szv]; omega) (by omega) (by omega))⟩
        case rest =>
          obtain ⟨ga, na, ca, rfl, hq⟩ := hcut
          obtain ⟨hloa, hhia, hga, xsa, hoa, hsa, hta, hda⟩ := hq.out.parts
          have OA := Lib.hid hoa
          have DA := Lib.hid hda
          have QA := Lib.hid (And.intro hga (And.intro hsa hta))
          clear hq hoa hda hga hsa hta k0
          have y5 := (Y2.out.keep DA.out LZ.out).key 5 _ rfl
          have y6 := (Y2.out.keep DA.out LZ.out).key 6 _ rfl
          have BA := Lib.hid (B2.out.trans (DA.out.mono B2.out.size))
          have LW := Lib.hid B2.out.size
          by_cases h5 : y.sp < 5
          · by_cases hin : y.sp < (na : Int)
            · have cq := OA.out.cellAt y.sp.toNat (by omega)
              have fq := OA.out.frozenAt y.sp.toNat
              obtain ⟨uq, huq⟩ : ∃ u, xsa[y.sp.toNat]? = some u := ⟨_, List.getElem?_eq_getElem (by have := own_len OA.out; omega)⟩
              rw [huq] at cq
              have R9 := Lib.hid (rl_set y.sp.toNat (.string y.t) hloa hhia QA.out.1 OA.out QA.out.2.1 QA.out.2.2 DA.out ⟨_, rfl⟩)
              have Y9 := Lib.hid (show Cx (wc.setCell ⟨ga, y.sp.toNat, none⟩ (.string y.t)) w.heap.size (syl y) from (Y2.out.keep DA.out LZ.out).keep (B := w2.heap.size) ((Below.refl w2.heap.size _).setCell (show w2.heap.size ≤ ga from QA.out.1) _) LZ.out)
              have hne : ga ≠ w.heap.size := by have := QA.out.1; have := LZ.out; omega
              go_wp2_with fail
              go_ret
              exact ⟨_, rfl, BA.out.setCell (show w.heap.size ≤ ga by have := QA.out.1; have := LW.out; omega) _, rl_rt R9.out (by omega) (by simp [szv]; omega)⟩
            · go_wp2_with fail
              go_ret
              exact ⟨_, rfl, BA.out, rl_rt ⟨ga, na, ca, _, rfl, hloa, hhia, QA.out.1, OA.out, QA.out.2.1, QA.out.2.2, DA.out⟩ (by omega) (by omega)⟩
          · by_cases h50 : y.sp = 5
            · have hsl := fun W => run_sl27 (some ⟨ga, 0, none⟩) na ca (na - 1) (by have := own_cap OA.out; omega) W
              rw [show ((na - 1 : Nat) : Int) = (na : Int) - 1 by omega] at hsl
              rw [h50] at y5
              have HRT := Lib.hid (rt_cut (by omega) OA.out QA.out.2.1 (Nat.le_trans QA.out.2.2 (show 66 ≤ y.t.size + 100 by omega)))
              clear h50 h5
              go_wp2_with fail
              go_ret
              exact ⟨_, rfl, BA.out, HRT.out⟩
            · by_cases h60 : y.sp = 6
              · rw [h60] at y5
                have HWH := Lib.hid DA.out.size
                clear h60 h50 h5
                go_wp2_with (at_builtin; refine wpList_append1 Tryd.underlying27 info9 rfl (by omega) _ rfl (.tmp 79) (.tmp 82) rfl w2.heap.size _ na _ (by simp [Act.eval, Act.put]) (OA.out.alloc _) wc.heap.size 1 (.string y.t) (by simp [Act.eval, Act.put]) (by simp) rfl (by omega) (by have := DA.out.size; simp; omega) ?_)
                intro g9 c9 w9 hown hgrow hat hlt
                have R9 := Lib.hid (rl_app hloa hhia QA.out.1 QA.out.2.1 QA.out.2.2 DA.out ⟨_, rfl⟩ hown hgrow hat)
                have B9 := Lib.hid ((BA.out.alloc BA.out.size _).grown hgrow (by have := BA.out.size; simp; omega) (fun j hj => by simp [Value.ownBlock] at hj; have := QA.out.1; have := LW.out; omega))
                clear hown hgrow hat hlt
                go_wp2_with fail
                go_ret
                exact ⟨_, rfl, B9.out, rl_rt R9.out (by omega) (by simp [szv]; omega)⟩
              · go_wp2_with fail
                go_ret
                exact ⟨_, rfl, BA.out, rl_rt ⟨ga, na, ca, _, rfl, hloa, hhia, QA.out.1, OA.out, QA.out.2.1, QA.out.2.2, DA.out⟩ (by omega) (by omega)⟩
    · go_upto_if 24 with fail
      go_cut [4] from 17 to 29 (fun v wr => ∃ g n c, v = .slice (some ⟨g, 0, none⟩) n c ∧ Hid (RL w2 41 2 2 (.slice (some ⟨g, 0, none⟩) n c) wr))
      case first =>
        have k9 := (E2.out.keep D3.out LE.out).key 9 _ rfl
        have k10 := (E2.out.keep D3.out LE.out).key 10 _ rfl
        go_wp2_with fail
        refine (HBT.out _ (HT.out.below (B2.out.trans (D3.out.mono B2.out.size)))).mono ?_
        rintro e w5 ⟨rfl, hb⟩
        have O5 := Lib.hid (own_keep O3.out hb)
        have D5 := Lib.hid (D3.out.trans (hb.mono D3.out.size))
        have c1 := O5.out.cellAt 1 (by omega)
        simp only [List.getElem?_cons_succ, List.getElem?_cons_zero] at c1
        have f1 := O5.out.frozenAt 1
        clear hb k9 k10
        have HRL := Lib.hid (RL.mono (rl_set 1 (.string TB) (lo := 2) (hi := 2) (by omega) (by omega) HG.out O5.out HSTR.out HTOT.out D5.out ⟨_, rfl⟩) (show 22 + szv (.string TB) ≤ 41 by have := HSZ.out.2.1; simp [szv]; omega) (Nat.le_refl _) (Nat.le_refl _))
        go_wp2_with fail
        go_meet
        exact ⟨_, _, _, rfl, HRL⟩
      case rest =>
        obtain ⟨g4, n4, c4, rfl, hq⟩ := hcut
        obtain ⟨hlo4, hhi4, hg4, xs4, ho4, hs4, ht4, hd4⟩ := hq.out.parts
        have O4 := Lib.hid ho4
        have D4 := Lib.hid hd4
        have Q4 := Lib.hid (And.intro hg4 (And.intro hs4 ht4))
        clear hq ho4 hd4 hg4 hs4 ht4 k0
        have k0 := (E2.out.keep D4.out LE.out).key 0 _ rfl
        rw [HXK.out] at k0
        go_upto_if 32 with fail
        go_cut [4] from 30 to 50 (fun v wr => ∃ g n c, v = .slice (some ⟨g, 0, none⟩) n c ∧ Hid (RL w2 66 2 4 (.slice (some ⟨g, 0, none⟩) n c) wr))
        case first =>
          cases h1 : (kk == 1)
          · go_wp2_with fail
            go_meet
            exact ⟨_, _, _, rfl, Lib.hid ⟨g4, n4, c4, _, rfl, by omega, by omega, Q4.out.1, O4.out, Q4.out.2.1, by have := Q4.out.2.2; omega, D4.out⟩⟩
          · have k2 := (E2.out.keep D4.out LE.out).key 2 _ rfl
            have HWH := Lib.hid D4.out.size
            go_wp2_with (at_builtin; refine wpList_append1 Tryd.underlying27 info9 rfl (by omega) _ rfl (.tmp 33) (.tmp 37) rfl w2.heap.size _ n4 _ (by simp [Act.eval, Act.put]) (O4.out.alloc _) wc.heap.size 1 (.string x.o) (by simp [Act.eval, Act.put]) (by simp) rfl (by omega) (by have := D4.out.size; simp; omega) ?_)
            intro g5 c5 w5 hown hgrow hat hlt
            have R5 := Lib.hid (rl_app (by omega) (by omega) Q4.out.1 Q4.out.2.1 Q4.out.2.2 D4.out ⟨_, rfl⟩ hown hgrow hat)
            clear hown hgrow hat hlt k2 k0
            obtain ⟨hlo6, hhi6, hg6, xs6, ho6, hs6, ht6, hd6⟩ := R5.out.parts
            have D6 := Lib.hid hd6
            clear ho6 hs6 ht6 hd6 hg6 hlo6 hhi6
            have m0 := (E2.out.keep D6.out LE.out).key 3 _ rfl
            have m1 := (E2.out.keep D6.out LE.out).key 4 _ rfl
            have m2 := (E2.out.keep D6.out LE.out).key 5 _ rfl
            have m3 := (E2.out.keep D6.out LE.out).key 6 _ rfl
            have m4 := (E2.out.keep D6.out LE.out).key 7 _ rfl
            have m5 := (E2.out.keep D6.out LE.out).key 8 _ rfl
            go_wp2_with fail
            refine (HNO.out _).mono ?_
            rintro e w7 ⟨rfl, hb⟩
            have R7 := Lib.hid (R5.out.keep hb)
            have D7 := Lib.hid (D6.out.trans (hb.mono D6.out.size))
            clear hb m0 m1 m2 m3 m4 m5
            cases NN
            · have m0 := (E2.out.keep D7.out LE.out).key 3 _ rfl
              have m1 := (E2.out.keep D7.out LE.out).key 4 _ rfl
              have m2 := (E2.out.keep D7.out LE.out).key 5 _ rfl
              have m3 := (E2.out.keep D7.out LE.out).key 6 _ rfl
              have m4 := (E2.out.keep D7.out LE.out).key 7 _ rfl
              have m5 := (E2.out.keep D7.out LE.out).key 8 _ rfl
              go_wp2_with fail
              refine (HMT.out _).mono ?_
              rintro e w8 ⟨rfl, hb⟩
              have R8 := Lib.hid (R7.out.keep hb)
              clear hb m0 m1 m2 m3 m4 m5
              obtain ⟨hlo8, hhi8, hg8, xs8, ho8, hs8, ht8, hd8⟩ := R8.out.parts
              have O8 := Lib.hid ho8
              have D8 := Lib.hid hd8
              have Q8 := Lib.hid (And.intro hg8 (And.intro hs8 ht8))
              clear ho8 hd8 hg8 hs8 ht8
              go_wp2_with (at_builtin; refine wpList_append1 Tryd.underlying27 info9 rfl (by omega) _ rfl (.tmp 44) (.tmp 49) rfl w2.heap.size _ (n4 + 1) _ (by simp [Act.eval, Act.put]) (O8.out.alloc _) w8.heap.size 1 (.string TM) (by simp [Act.eval, Act.put]) (by simp) rfl (by omega) (by have := D8.out.size; simp; omega) ?_)
              intro g9 c9 w9 hown hgrow hat hlt
              have R9 := Lib.hid (rl_app hlo8 hhi8 Q8.out.1 Q8.out.2.1 Q8.out.2.2 D8.out ⟨_, rfl⟩ hown hgrow hat)
              clear hown hgrow hat hlt
              go_wp2_with fail
              go_meet
              exact ⟨_, _, _, rfl, Lib.hid (RL.mono R9.out (show 41 + szv (.string x.o) + szv (.string TM) ≤ 66 by have := HSZ.out.2.2.1; have := HSZ.out.2.2.2.2; simp [szv]; omega) (by omega) (by omega))⟩
            · go_wp2_with fail
              go_meet
              exact ⟨_, _, _, rfl, Lib.hid (RL.mono R7.out (show 41 + szv (.string x.o) ≤ 66 by have := HSZ.out.2.2.2.2; simp [szv]; omega) (by omega) (by omega))⟩
        case rest =>
          obtain ⟨ga, na, ca, rfl, hq⟩ := hcut
          obtain ⟨hloa, hhia, hga, xsa, hoa, hsa, hta, hda⟩ := hq.out.parts
          have OA := Lib.hid hoa
          have DA := Lib.hid hda
          have QA := Lib.hid (And.intro hga (And.intro hsa hta))
          clear hq hoa hda hga hsa hta k0
          have y5 := (Y2.out.keep DA.out LZ.out).key 5 _ rfl
          have y6 := (Y2.out.keep DA.out LZ.out).key 6 _ rfl
          have BA := Lib.hid (B2.out.trans (DA.out.mono B2.out.size))
          have LW := Lib.hid B2.out.size
          by_cases h5 : y.sp < 5
          · by_cases hin : y.sp < (na : Int)
            · have cq := OA.out.cellAt y.sp.toNat (by omega)
              have fq := OA.out.frozenAt y.sp.toNat
              obtain ⟨uq, huq⟩ : ∃ u, xsa[y.sp.toNat]? = some u := ⟨_, List.getElem?_eq_getElem (by have := own_len OA.out; omega)⟩
              rw [huq] at cq
              have R9 := Lib.hid (rl_set y.sp.toNat (.string y.t) hloa hhia QA.out.1 OA.out QA.out.2.1 QA.out.2.2 DA.out ⟨_, rfl⟩)
              have Y9 := Lib.hid (show Cx (wc.setCell ⟨ga, y.sp.toNat, none⟩ (.string y.t)) w.heap.size (syl y) from (Y2.out.keep DA.out LZ.out).keep (B := w2.heap.size) ((Below.refl w2.heap.size _).setCell (show w2.heap.size ≤ ga from QA.out.1) _) LZ.out)
              have hne : ga ≠ w.heap.size := by have := QA.out.1; have := LZ.out; omega
              go_wp2_with fail
              go_ret
              exact ⟨_, rfl, BA.out.setCell (show w.heap.size ≤ ga by have := QA.out.1; have := LW.out; omega) _, rl_rt R9.out (by omega) (by simp [szv]; omega)⟩
            · go_wp2_with fail
              go_ret
              exact ⟨_, rfl, BA.out, rl_rt ⟨ga, na, ca, _, rfl, hloa, hhia, QA.out.1, OA.out, QA.out.2.1, QA.out.2.2, DA.out⟩ (by omega) (by omega)⟩
          · by_cases h50 : y.sp = 5
            · have hsl := fun W => run_sl27 (some ⟨ga, 0, none⟩) na ca (na - 1) (by have := own_cap OA.out; omega) W
              rw [show ((na - 1 : Nat) : Int) = (na : Int) - 1 by omega] at hsl
              rw [h50] at y5
              have HRT := Lib.hid (rt_cut (by omega) OA.out QA.out.2.1 (Nat.le_trans QA.out.2.2 (show 66 ≤ y.t.size + 100 by omega)))
              clear h50 h5
              go_wp2_with fail
              go_ret
              exact ⟨_, rfl, BA.out, HRT.out⟩
            · by_cases h60 : y.sp = 6
              · rw [h60] at y5
                have HWH := Lib.hid DA.out.size
                clear h60 h50 h5
                go_wp2_with (at_builtin; refine wpList_append1 Tryd.underlying27 info9 rfl (by omega) _ rfl (.tmp 79) (.tmp 82) rfl w2.heap.size _ na _ (by simp [Act.eval, Act.put]) (OA.out.alloc _) wc.heap.size 1 (.string y.t) (by simp [Act.eval, Act.put]) (by simp) rfl (by omega) (by have := DA.out.size; simp; omega) ?_)
                intro g9 c9 w9 hown hgrow hat hlt
                have R9 := Lib.hid (rl_app hloa hhia QA.out.1 QA.out.2.1 QA.out.2.2 DA.out ⟨_, rfl⟩ hown hgrow hat)
                have B9 := Lib.hid ((BA.out.alloc BA.out.size _).grown hgrow (by have := BA.out.size; simp; omega) (fun j hj => by simp [Value.ownBlock] at hj; have := QA.out.1; have := LW.out; omega))
                clear hown hgrow hat hlt
                go_wp2_with fail
                go_ret
                exact ⟨_, rfl, B9.out, rl_rt R9.out (by omega) (by simp [szv]; omega)⟩
              · go_wp2_with fail
                go_ret
                exact ⟨_, rfl, BA.out, rl_rt ⟨ga, na, ca, _, rfl, hloa, hhia, QA.out.1, OA.out, QA.out.2.1, QA.out.2.2, DA.out⟩ (by omega) (by omega)⟩
end Go.Proofs.YtegbdagmnibfmaaDoor
