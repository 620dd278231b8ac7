/-
  CommandParse's walk: at any command by numbers and any two texts it returns true, and changes nothing that was in memory. Conditions: the library's variables lie as their texts lay them (Env).
-/
import Derived.Test.YtegbdagmnibfmaaDoorSpl
import Derived.Test.YtegbdagmnibfmaaDoorPa
set_option linter.unusedSimpArgs false
set_option linter.unusedVariables false
namespace Go.Proofs.YtegbdagmnibfmaaDoor
open Go.RowKit

/-- A row of three texts. -/
def R3 : Value → World → Prop := fun v W => ∃ g, v = .slice (some ⟨g, 0, none⟩) 3 3 ∧ ∀ j, j < 3 → ∃ T : ByteArray, W.cell? ⟨g, j, none⟩ = some (.string T) ∧ T.size ≤ maxLen
theorem stable_R3 : Stable R3 := fun _ _ _ ⟨g, h1, h2⟩ hb => ⟨g, h1, fun j hj => by
  obtain ⟨T, h3, h4⟩ := h2 j hj
  exact ⟨T, (hb.cell (p := ⟨g, j, none⟩) (World.block_lt_of_cell? _ _ h3)).trans h3, h4⟩⟩
theorem R3_new (W : World) (A B C : ByteArray) (ha : A.size ≤ maxLen) (hb : B.size ≤ maxLen) (hc : C.size ≤ maxLen) : R3 (.slice (some ⟨W.heap.size, 0, none⟩) 3 3) (W.alloc (.cells #[.string A, .string B, .string C] 9)) :=
  ⟨_, rfl, fun j hj => by
    rcases (show j = 0 ∨ j = 1 ∨ j = 2 by omega) with rfl | rfl | rfl
    · exact ⟨A, by simp, ha⟩
    · exact ⟨B, by simp, hb⟩
    · exact ⟨C, by simp, hc⟩⟩

set_option maxRecDepth 100000 in
set_option maxHeartbeats 8000000 in
theorem parse_walk (y : Sy) (raw more : ByteArray) (w : World) (hs : Sok y) (ks : y.t.size ≤ 140737488351232) (kr : raw.size ≤ 140737488351232) (km : more.size ≤ 140737488351232) (hE : Env w) :
    Calls Tryd.prog 3 #[syv y, .string raw, .string more] w fun e w' => e = .returned (.bool true) ∧ Below w.heap.size w w' := by
  have B0 := Lib.hid ((Below.refl w.heap.size w).alloc (Nat.le_refl _) (Syx y))
  have S0 := Lib.hid (sy_box w y)
  have HAW := Lib.hid (awake_any _ (hE.keep B0.out))
  have HE := Lib.hid hE
  obtain ⟨M, hM⟩ : ∃ M, y.t.size + 100 = M := ⟨_, rfl⟩
  have hspl := fun W (ht : Tab W) => split_any y W hs ht
  rw [hM] at hspl
  have HSPL := Lib.hid hspl
  have HM := Lib.hid (show M ≤ 281474976710656 ∧ M + 5 + more.size ≤ 281474976710656 by omega)
  have HRAW := Lib.hid (show raw.size ≤ maxLen by unfold maxLen; omega)
  unfold Syx at *
  unfold syv at *
  clear hs hE hM ks kr km hspl
  go_enter Tryd.func3, Tryd.ntmps3
  go_wp2_with fail
  refine (HAW.out).mono ?_
  rintro e w3 ⟨rfl, hb⟩
  have B3 := Lib.hid (B0.out.trans (hb.mono B0.out.size))
  have S3 := Lib.hid (S0.out.belowY hb)
  clear hb HAW
  go_upto_region 3 with fail
  refine wp_region_below [fx (.agg #[.int .u8 y.wh, .int .u32 y.ad, .int .u8 y.bi, .int .u8 y.ow, .int .u8 y.ma, .int .u8 y.sp, .string y.t]), Rt M, St (M + 5), fx (.string raw), fx (.agg #[.int .u8 y.wh, .int .u32 y.ad, .int .u8 y.bi, .int .u8 y.ow, .int .u8 y.ma, .int .u8 y.sp, .string y.t]), Rt M, St (M + 5), fx (.string more), St 281474976710656, R3, fx (.int .i64 3), fx (.int .i64 0)]
    (by kernel_rfl) (by kernel_rfl) (by kernel_rfl) ?_ ?_ ?_
  · simp only [List.mem_cons, List.not_mem_nil, or_false]
    rintro φ (rfl | rfl | rfl | rfl | rfl | rfl | rfl | rfl | rfl | rfl | rfl | rfl)
    all_goals first | exact stable_fx _ | exact stable_fr _ _ | exact stable_Rt _ | exact stable_St _ | exact stable_R3
  · refine OgSteps.cons ?_ (OgSteps.cons ?_ (OgSteps.cons ?_ (OgSteps.cons ?_ (OgSteps.cons ?_ (OgSteps.cons ?_ (OgSteps.cons ?_ (OgSteps.cons ?_ (OgSteps.cons ?_ (OgSteps.cons ?_ (OgSteps.cons ?_ (OgSteps.cons ?_ (OgSteps.nil))))))))))))
    · refine OgStep.pure ?_ ?_
      · rfl
      intro u W hS hp
      obtain ⟨R0, R1, R2, R3, R4, R5, R6⟩ := sy_c (S3.out.belowY hS)
      refine ⟨.agg #[.int .u8 y.wh, .int .u32 y.ad, .int .u8 y.bi, .int .u8 y.ow, .int .u8 y.ma, .int .u8 y.sp, .string y.t], ?_, rfl⟩
      simp only [ogMk, Act.put, List.setIfInBounds_toArray, List.set_cons_zero, List.set_cons_succ, Nat.zero_add, Nat.reduceAdd, List.take_succ_cons, List.take_zero, List.drop_succ_cons, List.drop_zero]
      simp [execOp, Act.eval, go_sem, R0, R1, R2, R3, R4, R5, R6]
    · refine OgStep.calls ?_ ?_
      · rfl
      intro u W hS hp
      have h0 : u 0 = .agg #[.int .u8 y.wh, .int .u32 y.ad, .int .u8 y.bi, .int .u8 y.ow, .int .u8 y.ma, .int .u8 y.sp, .string y.t] := hp ⟨0, .data⟩ (by simp) rfl
      refine ⟨9, #[.agg #[.int .u8 y.wh, .int .u32 y.ad, .int .u8 y.bi, .int .u8 y.ow, .int .u8 y.ma, .int .u8 y.sp, .string y.t]], ?_, HSPL.out W (HE.out.keep (B3.out.trans (hS.mono B3.out.size))).tab⟩
      simp only [ogMk, Act.put, List.setIfInBounds_toArray, List.set_cons_zero, List.set_cons_succ, Nat.zero_add, Nat.reduceAdd, List.take_succ_cons, List.take_zero, List.drop_succ_cons, List.drop_zero]
      simp [execOp, Act.eval, go_sem, h0]
    · refine OgStep.calls ?_ ?_
      · rfl
      intro u W hS hp
      have r1 : Rt M (u 1) W := hp ⟨1, .data⟩ (by simp) rfl
      refine ⟨8, #[u 1], ?_, line_any M (u 1) W HM.out.1 r1⟩
      simp only [ogMk, Act.put, List.setIfInBounds_toArray, List.set_cons_zero, List.set_cons_succ, Nat.zero_add, Nat.reduceAdd, List.take_succ_cons, List.take_zero, List.drop_succ_cons, List.drop_zero]
      simp [execOp, Act.eval, go_sem]
    · refine OgStep.pure ?_ ?_
      · rfl
      intro u W hS hp
      refine ⟨.string raw, ?_, rfl⟩
      simp only [ogMk, Act.put, List.setIfInBounds_toArray, List.set_cons_zero, List.set_cons_succ, Nat.zero_add, Nat.reduceAdd, List.take_succ_cons, List.take_zero, List.drop_succ_cons, List.drop_zero]
      simp [execOp, Act.eval, go_sem]
    · refine OgStep.pure ?_ ?_
      · rfl
      intro u W hS hp
      obtain ⟨R0, R1, R2, R3, R4, R5, R6⟩ := sy_c (S3.out.belowY hS)
      refine ⟨.agg #[.int .u8 y.wh, .int .u32 y.ad, .int .u8 y.bi, .int .u8 y.ow, .int .u8 y.ma, .int .u8 y.sp, .string y.t], ?_, rfl⟩
      simp only [ogMk, Act.put, List.setIfInBounds_toArray, List.set_cons_zero, List.set_cons_succ, Nat.zero_add, Nat.reduceAdd, List.take_succ_cons, List.take_zero, List.drop_succ_cons, List.drop_zero]
      simp [execOp, Act.eval, go_sem, R0, R1, R2, R3, R4, R5, R6]
    · refine OgStep.calls ?_ ?_
      · rfl
      intro u W hS hp
      have h4 : u 4 = .agg #[.int .u8 y.wh, .int .u32 y.ad, .int .u8 y.bi, .int .u8 y.ow, .int .u8 y.ma, .int .u8 y.sp, .string y.t] := hp ⟨4, .data⟩ (by simp) rfl
      refine ⟨9, #[.agg #[.int .u8 y.wh, .int .u32 y.ad, .int .u8 y.bi, .int .u8 y.ow, .int .u8 y.ma, .int .u8 y.sp, .string y.t]], ?_, HSPL.out W (HE.out.keep (B3.out.trans (hS.mono B3.out.size))).tab⟩
      simp only [ogMk, Act.put, List.setIfInBounds_toArray, List.set_cons_zero, List.set_cons_succ, Nat.zero_add, Nat.reduceAdd, List.take_succ_cons, List.take_zero, List.drop_succ_cons, List.drop_zero]
      simp [execOp, Act.eval, go_sem, h4]
    · refine OgStep.calls ?_ ?_
      · rfl
      intro u W hS hp
      have r5 : Rt M (u 5) W := hp ⟨5, .data⟩ (by simp) rfl
      refine ⟨8, #[u 5], ?_, line_any M (u 5) W HM.out.1 r5⟩
      simp only [ogMk, Act.put, List.setIfInBounds_toArray, List.set_cons_zero, List.set_cons_succ, Nat.zero_add, Nat.reduceAdd, List.take_succ_cons, List.take_zero, List.drop_succ_cons, List.drop_zero]
      simp [execOp, Act.eval, go_sem]
    · refine OgStep.pure ?_ ?_
      · rfl
      intro u W hS hp
      refine ⟨.string more, ?_, rfl⟩
      simp only [ogMk, Act.put, List.setIfInBounds_toArray, List.set_cons_zero, List.set_cons_succ, Nat.zero_add, Nat.reduceAdd, List.take_succ_cons, List.take_zero, List.drop_succ_cons, List.drop_zero]
      simp [execOp, Act.eval, go_sem]
    · refine OgStep.pure ?_ ?_
      · rfl
      intro u W hS hp
      obtain ⟨T6, h6, hT6⟩ : St (M + 5) (u 6) W := hp ⟨6, .data⟩ (by simp) rfl
      have h7 : u 7 = .string more := hp ⟨7, .data⟩ (by simp) rfl
      have hM := HM.out.2
      have hadd := fun W => run_string_add_sum (P := Tryd.prog) W T6 more (by omega)
      refine ⟨.string (T6 ++ more), ?_, ⟨_, rfl, by rw [ByteArray.size_append]; omega⟩⟩
      simp only [ogMk, Act.put, List.setIfInBounds_toArray, List.set_cons_zero, List.set_cons_succ, Nat.zero_add, Nat.reduceAdd, List.take_succ_cons, List.take_zero, List.drop_succ_cons, List.drop_zero]
      simp [execOp, Act.eval, go_sem, h6, h7, hadd]
    · refine OgStep.made ?_ ?_
      · rfl
      intro u W hS hp
      obtain ⟨T2, h2, hT2⟩ : St (M + 5) (u 2) W := hp ⟨2, .data⟩ (by simp) rfl
      have h3 : u 3 = .string raw := hp ⟨3, .data⟩ (by simp) rfl
      obtain ⟨T8, h8, hT8⟩ : St 281474976710656 (u 8) W := hp ⟨8, .data⟩ (by simp) rfl
      have hM := HM.out
      refine ⟨.slice (some ⟨W.heap.size, 0, none⟩) 3 3, W.alloc (.cells #[.string T2, .string raw, .string T8] 9), ?_, (Below.refl _ W).alloc (Nat.le_refl _) _, R3_new W T2 raw T8 (by unfold maxLen; omega) HRAW.out (by unfold maxLen; omega)⟩
      simp only [ogMk, Act.put, List.setIfInBounds_toArray, List.set_cons_zero, List.set_cons_succ, Nat.zero_add, Nat.reduceAdd, List.take_succ_cons, List.take_zero, List.drop_succ_cons, List.drop_zero]
      simp [execOp, Act.eval, go_sem, h2, h3, h8]
    · refine OgStep.pure ?_ ?_
      · rfl
      intro u W hS hp
      obtain ⟨g, h9, _⟩ : R3 (u 9) W := hp ⟨9, .data⟩ (by simp) rfl
      refine ⟨.int .i64 3, ?_, rfl⟩
      simp only [ogMk, Act.put, List.setIfInBounds_toArray, List.set_cons_zero, List.set_cons_succ, Nat.zero_add, Nat.reduceAdd, List.take_succ_cons, List.take_zero, List.drop_succ_cons, List.drop_zero]
      simp [execOp, Act.eval, go_sem, h9]
    · refine OgStep.pure ?_ ?_
      · rfl
      intro u W hS hp
      refine ⟨.int .i64 0, ?_, rfl⟩
      simp only [ogMk, Act.put, List.setIfInBounds_toArray, List.set_cons_zero, List.set_cons_succ, Nat.zero_add, Nat.reduceAdd, List.take_succ_cons, List.take_zero, List.drop_succ_cons, List.drop_zero]
      simp [execOp, Act.eval, go_sem]
  · intro u W hS hF
    obtain ⟨g, h9, hR3⟩ : R3 (u 9) W := hF 9 (by decide)
    have e0 : u 0 = .agg #[.int .u8 y.wh, .int .u32 y.ad, .int .u8 y.bi, .int .u8 y.ow, .int .u8 y.ma, .int .u8 y.sp, .string y.t] := hF 0 (by decide)
    have e3 : u 3 = .string raw := hF 3 (by decide)
    have e4 : u 4 = .agg #[.int .u8 y.wh, .int .u32 y.ad, .int .u8 y.bi, .int .u8 y.ow, .int .u8 y.ma, .int .u8 y.sp, .string y.t] := hF 4 (by decide)
    have e7 : u 7 = .string more := hF 7 (by decide)
    have e10 : u 10 = .int .i64 3 := hF 10 (by decide)
    have e11 : u 11 = .int .i64 0 := hF 11 (by decide)
    simp only [ogMk, Act.put, List.setIfInBounds_toArray, List.set_cons_zero, List.set_cons_succ, Nat.zero_add, Nat.reduceAdd, List.take_succ_cons, List.take_zero, List.drop_succ_cons, List.drop_zero]
    rw [e0, e3, e4, e7, e10, e11, h9]
    clear e0 e3 e4 e7 e10 e11 h9 hF
    have B4 := Lib.hid (B3.out.trans (hS.mono B3.out.size))
    have HR3 := Lib.hid hR3
    clear hS hR3
    generalize u 1 = v1
    generalize u 2 = v2
    generalize u 5 = v5
    generalize u 6 = v6
    generalize u 8 = v8
    go_wp2_with fail
    go_loopg [30] 3 (fun m i wr => ∃ k : Nat, k + m = 3 ∧ i = .int .i64 (k : Int) ∧ Hid (Below W.heap.size W wr))
    case atStart => exact ⟨0, by omega, rfl, Lib.hid (Below.refl _ _)⟩
    case round =>
      obtain ⟨k, hkm, rfl, HD⟩ := hrel
      match gk with
      | 0 =>
        obtain rfl : k = 3 := by omega
        go_wp2_with fail
        go_ret
        exact ⟨rfl, B4.out.trans (HD.out.mono B4.out.size)⟩
      | m + 1 =>
        have hk : k < 3 := by omega
        obtain ⟨T, hc, hT⟩ := HR3.out k hk
        have ck := keepC HD.out hc
        obtain ⟨⟨x, a, n⟩, hr⟩ : ∃ r, psO T = r := ⟨_, rfl⟩
        have hP := fun W => parse_any T W hT
        have hQ := fun W => pa_any T W hT
        rw [hr] at hP hQ
        have HP := Lib.hid hP
        have HQ := Lib.hid hQ
        clear hP hQ hr hT hc
        go_wp2_with fail
        refine (HP.out _).mono ?_
        rintro e w5 ⟨⟨ev, rfl, pe⟩, hb⟩
        have D5 := Lib.hid (HD.out.trans (hb.mono HD.out.size))
        have Z5 := Lib.hid (ev_box w5 zev)
        have PE5 := Lib.hid (pe.keep ((Below.refl _ w5).alloc (Nat.le_refl _) (Evx zev)))
        have DA := Lib.hid (D5.out.alloc D5.out.size (Evx zev))
        have L5 := Lib.hid D5.out.size
        clear hb ck pe
        dsimp only
        go_wp2_with (refine at_store41 _ _ w5.heap.size zev x Z5.out rfl rfl rfl rfl ?_; intro w6 X6 C6 G6; have D6 := Lib.hid (DA.out.trans (C6.out _ L5.out)); have PE6 := Lib.hid (PE5.out.store Z5.out G6.out))
        refine (HQ.out _).mono ?_
        rintro e w7 ⟨rfl, hb⟩
        have X7 := Lib.hid (X6.out.belowX hb)
        have PE7 := Lib.hid (PE6.out.keep hb)
        have D7 := Lib.hid (D6.out.trans (hb.mono D6.out.size))
        have Z7 := Lib.hid (ev_box w7 zev)
        have XA := Lib.hid (X7.out.belowX ((Below.refl _ w7).alloc (Nat.le_refl _) (Evx zev)))
        have PEA := Lib.hid (PE7.out.keep ((Below.refl _ w7).alloc (Nat.le_refl _) (Evx zev)))
        have DB := Lib.hid (D7.out.alloc D7.out.size (Evx zev))
        have L7 := Lib.hid D7.out.size
        have LX := Lib.hid X7.out.ltE
        clear hb
        dsimp only
        go_upto_region 8 with (refine at_store41 _ _ w7.heap.size zev x Z7.out rfl rfl rfl rfl ?_; intro w8 Y8 C8 G8; have D8 := Lib.hid (DB.out.trans (C8.out _ L7.out)); have X8 := Lib.hid (XA.out.keep (C8.out _ (Nat.le_refl _)) LX.out); have PE8 := Lib.hid (PEA.out.store Z7.out G8.out))
        have B8 := Lib.hid (B4.out.trans (D8.out.mono B4.out.size))
        generalize w5.heap.size = b9 at *
        generalize w7.heap.size = b11 at *
        rcases PE8.out with ⟨hn, he⟩ | ⟨hn, ha, he⟩ | ⟨hn, ha, b, he, -, -⟩
        · obtain rfl : n = 0 := hn
          obtain rfl : ev = .nilIface := he
          go_wp2_with (first | (refine at_load41 _ b9 x X8.out rfl rfl rfl ?_) | (refine at_load41 _ b11 x Y8.out rfl rfl rfl ?_) | (refine at_neq41 _ _ x x rfl rfl rfl rfl ?_; rw [eqE_refl]))
          refine (where_any a 0 _ _ PE8.out (HE.out.keep B8.out).et).mono ?_
          rintro e w9 ⟨rfl, hb⟩
          have D9 := Lib.hid (D8.out.trans (hb.mono D8.out.size))
          clear hb
          rw [show whA a 0 = 0 from by simp [whA], show (decide ((0 : Int) ≠ 0 ∧ 0 ≤ a)) = false from by simp]
          go_wp2_with fail
          go_roundg m
          case measure => omega
          case rel => exact ⟨k + 1, by omega, by go_num, D9⟩
        · have hn0 : (n == 0) = false := by simpa using hn
          have hn1 : (n != 0) = true := by simpa using hn
          have ha2 : a < 0 := ha
          obtain rfl : ev = eW n := he
          have HWA := Lib.hid (show whA a n = 0 by unfold whA; rw [if_neg (by omega)])
          have HDE := Lib.hid (show (decide (n ≠ 0 ∧ 0 ≤ a)) = false from decide_eq_false (by omega))
          unfold eW at *
          clear hn ha
          go_wp2_with (first | (refine at_load41 _ b9 x X8.out rfl rfl rfl ?_) | (refine at_load41 _ b11 x Y8.out rfl rfl rfl ?_) | (refine at_neq41 _ _ x x rfl rfl rfl rfl ?_; rw [eqE_refl]))
          refine (where_any a n _ _ PE8.out (HE.out.keep B8.out).et).mono ?_
          rintro e w9 ⟨rfl, hb⟩
          have D9 := Lib.hid (D8.out.trans (hb.mono D8.out.size))
          clear hb
          rw [HWA.out, HDE.out]
          go_wp2_with fail
          go_roundg m
          case measure => omega
          case rel => exact ⟨k + 1, by omega, by go_num, D9⟩
        · have hn0 : (n == 0) = false := by simpa using hn
          have hn1 : (n != 0) = true := by simpa using hn
          have ha2 : 0 ≤ a := ha
          obtain rfl : ev = eF b := he
          have HWA := Lib.hid (show whA a n = a by unfold whA; rw [if_pos ⟨hn, ha⟩])
          have HDE := Lib.hid (show (decide (n ≠ 0 ∧ 0 ≤ a)) = true from decide_eq_true ⟨hn, ha⟩)
          unfold eF at *
          clear hn ha
          go_wp2_with (first | (refine at_load41 _ b9 x X8.out rfl rfl rfl ?_) | (refine at_load41 _ b11 x Y8.out rfl rfl rfl ?_) | (refine at_neq41 _ _ x x rfl rfl rfl rfl ?_; rw [eqE_refl]))
          refine (where_any a n _ _ PE8.out (HE.out.keep B8.out).et).mono ?_
          rintro e w9 ⟨rfl, hb⟩
          have D9 := Lib.hid (D8.out.trans (hb.mono D8.out.size))
          clear hb
          rw [HWA.out, HDE.out]
          go_wp2_with fail
          go_roundg m
          case measure => omega
          case rel => exact ⟨k + 1, by omega, by go_num, D9⟩
end Go.Proofs.YtegbdagmnibfmaaDoor
