/-
  CommandApart's walk: at any two commands by numbers it returns true, and changes nothing that was in memory. Conditions: the library's variables lie as their texts lay them (Env).
-/
import Derived.Test.YtegbdagmnibfmaaDoorOgs
import Derived.Deep.CutRange
set_option linter.unusedSimpArgs false
set_option linter.unusedVariables false
namespace Go.Proofs.YtegbdagmnibfmaaDoor
open Go.RowKit

theorem lists_eq {x y : ByteArray} : (x.toList == y.toList) = true ↔ x = y := by
  rw [beq_iff_eq]
  constructor
  · intro h
    simp only [ByteArray.toList_eq] at h
    exact ByteArray.ext (Array.toList_inj.1 h)
  · rintro rfl; rfl
theorem apart_eq {p q : Ev} (hp : Ve p) (hq : Ve q) : (((txt p).toList == (txt q).toList) == eqE p q) = true := by
  rw [beq_iff_eq, Bool.eq_iff_iff, lists_eq, eqE_iff]
  exact ⟨fun h => txt_inj hp hq h, fun h => by rw [h]⟩

set_option maxRecDepth 100000 in
set_option maxHeartbeats 4000000 in
theorem apart_walk (s t : Sy) (w : World) (hs : Sok s) (_ks : s.t.size ≤ 140737488351232) (ht : Sok t) (_kt : t.t.size ≤ 140737488351232) (hE : Env w) :
    Calls Tryd.prog 6 #[syv s, syv t] w fun e w' => e = .returned (.bool true) ∧ Below w.heap.size w w' := by
  have B0 := Lib.hid (((Below.refl w.heap.size w).alloc (Nat.le_refl _) (Syx s)).alloc (by simp) (Syx t))
  have S0 := Lib.hid ((sy_box w s).belowY ((Below.refl _ _).alloc (Nat.le_refl _) (Syx t)))
  have T0 := Lib.hid (sy_box (w.alloc (Syx s)) t)
  rw [World.size_alloc] at T0
  have HAW := Lib.hid (awake_any _ (hE.keep B0.out))
  have HE := Lib.hid hE
  have HES := Lib.hid fun W => event_any s W hs
  have HET := Lib.hid fun W => event_any t W ht
  have VS := Lib.hid (ev_valid s hs)
  have VT := Lib.hid (ev_valid t ht)
  unfold Syx at *
  unfold syv at *
  clear hs ht hE
  go_enter Tryd.func6, Tryd.ntmps6
  go_wp2_with fail
  refine (HAW.out).mono ?_
  rintro e w3 ⟨rfl, hb⟩
  have B3 := Lib.hid (B0.out.trans (hb.mono B0.out.size))
  have S3 := Lib.hid (S0.out.belowY hb)
  have T3 := Lib.hid (T0.out.belowY hb)
  clear hb HAW
  go_upto_region 3 with fail
  refine wp_region_below_tail 6 [fx (.agg #[.int .u8 s.wh, .int .u32 s.ad, .int .u8 s.bi, .int .u8 s.ow, .int .u8 s.ma, .int .u8 s.sp, .string s.t]), fx (evv (evS s)), fx (.agg #[.int .u8 t.wh, .int .u32 t.ad, .int .u8 t.bi, .int .u8 t.ow, .int .u8 t.ma, .int .u8 t.sp, .string t.t]), fx (evv (evS t)), nE w.heap.size, nE w.heap.size]
    (by kernel_rfl) (by simp) (by kernel_rfl) (by kernel_rfl) (by kernel_rfl) ?_ ?_ ?_
  · simp only [List.mem_cons, List.not_mem_nil, or_false]
    rintro φ (rfl | rfl | rfl | rfl | rfl | rfl)
    all_goals first | exact stable_fx _ | exact stable_fr _ _ | exact stable_nE _
  · refine OgSteps.cons ?_ (OgSteps.cons ?_ (OgSteps.cons ?_ (OgSteps.cons ?_ (OgSteps.cons ?_ (OgSteps.cons ?_ (OgSteps.nil))))))
    · refine OgStep.pure ?_ ?_
      · rfl
      intro u W hS hp
      obtain ⟨R0, R1, R2, R3, R4, R5, R6⟩ := sy_c (S3.out.belowY hS)
      refine ⟨.agg #[.int .u8 s.wh, .int .u32 s.ad, .int .u8 s.bi, .int .u8 s.ow, .int .u8 s.ma, .int .u8 s.sp, .string s.t], ?_, rfl⟩
      simp only [ogMk, Act.put, List.setIfInBounds_toArray, List.set_cons_zero, List.set_cons_succ, Nat.zero_add, Nat.reduceAdd, List.take_succ_cons, List.take_zero, List.drop_succ_cons, List.drop_zero]
      simp [execOp, Act.eval, go_sem, R0, R1, R2, R3, R4, R5, R6]
    · refine OgStep.calls ?_ ?_
      · rfl
      intro u W hS hp
      have h0 : u 0 = .agg #[.int .u8 s.wh, .int .u32 s.ad, .int .u8 s.bi, .int .u8 s.ow, .int .u8 s.ma, .int .u8 s.sp, .string s.t] := hp ⟨0, .data⟩ (by simp) rfl
      refine ⟨14, #[.agg #[.int .u8 s.wh, .int .u32 s.ad, .int .u8 s.bi, .int .u8 s.ow, .int .u8 s.ma, .int .u8 s.sp, .string s.t]], ?_, calls_fx (HES.out W) rfl⟩
      simp only [ogMk, Act.put, List.setIfInBounds_toArray, List.set_cons_zero, List.set_cons_succ, Nat.zero_add, Nat.reduceAdd, List.take_succ_cons, List.take_zero, List.drop_succ_cons, List.drop_zero]
      simp [execOp, Act.eval, go_sem, h0]
    · refine OgStep.pure ?_ ?_
      · rfl
      intro u W hS hp
      obtain ⟨R0, R1, R2, R3, R4, R5, R6⟩ := sy_c (T3.out.belowY hS)
      refine ⟨.agg #[.int .u8 t.wh, .int .u32 t.ad, .int .u8 t.bi, .int .u8 t.ow, .int .u8 t.ma, .int .u8 t.sp, .string t.t], ?_, rfl⟩
      simp only [ogMk, Act.put, List.setIfInBounds_toArray, List.set_cons_zero, List.set_cons_succ, Nat.zero_add, Nat.reduceAdd, List.take_succ_cons, List.take_zero, List.drop_succ_cons, List.drop_zero]
      simp [execOp, Act.eval, go_sem, R0, R1, R2, R3, R4, R5, R6]
    · refine OgStep.calls ?_ ?_
      · rfl
      intro u W hS hp
      have h2 : u 2 = .agg #[.int .u8 t.wh, .int .u32 t.ad, .int .u8 t.bi, .int .u8 t.ow, .int .u8 t.ma, .int .u8 t.sp, .string t.t] := hp ⟨2, .data⟩ (by simp) rfl
      refine ⟨14, #[.agg #[.int .u8 t.wh, .int .u32 t.ad, .int .u8 t.bi, .int .u8 t.ow, .int .u8 t.ma, .int .u8 t.sp, .string t.t]], ?_, calls_fx (HET.out W) rfl⟩
      simp only [ogMk, Act.put, List.setIfInBounds_toArray, List.set_cons_zero, List.set_cons_succ, Nat.zero_add, Nat.reduceAdd, List.take_succ_cons, List.take_zero, List.drop_succ_cons, List.drop_zero]
      simp [execOp, Act.eval, go_sem, h2]
    · refine OgStep.made ?_ ?_
      · rfl
      intro u W hS hp
      refine ⟨.pointer (some ⟨W.heap.size, 0, none⟩), _, ?_, (Below.refl _ W).alloc (Nat.le_refl _) _, nE_new W _ (by have := B3.out.size; have := hS.size; omega)⟩
      simp only [ogMk, Act.put, List.setIfInBounds_toArray, List.set_cons_zero, List.set_cons_succ, Nat.zero_add, Nat.reduceAdd, List.take_succ_cons, List.take_zero, List.drop_succ_cons, List.drop_zero]
      simp [execOp, Act.eval, go_sem, Evx, zev]
    · refine OgStep.made ?_ ?_
      · rfl
      intro u W hS hp
      refine ⟨.pointer (some ⟨W.heap.size, 0, none⟩), _, ?_, (Below.refl _ W).alloc (Nat.le_refl _) _, nE_new W _ (by have := B3.out.size; have := hS.size; omega)⟩
      simp only [ogMk, Act.put, List.setIfInBounds_toArray, List.set_cons_zero, List.set_cons_succ, Nat.zero_add, Nat.reduceAdd, List.take_succ_cons, List.take_zero, List.drop_succ_cons, List.drop_zero]
      simp [execOp, Act.eval, go_sem, Evx, zev]
  · intro u W hS hF
    obtain ⟨b4, h4, hB4, C4⟩ : nE w.heap.size (u 4) W := hF 4 (by decide)
    obtain ⟨b5, h5, hB5, C5⟩ : nE w.heap.size (u 5) W := hF 5 (by decide)
    have e0 : u 0 = .agg #[.int .u8 s.wh, .int .u32 s.ad, .int .u8 s.bi, .int .u8 s.ow, .int .u8 s.ma, .int .u8 s.sp, .string s.t] := hF 0 (by decide)
    have e1 : u 1 = evv (evS s) := hF 1 (by decide)
    have e2 : u 2 = .agg #[.int .u8 t.wh, .int .u32 t.ad, .int .u8 t.bi, .int .u8 t.ow, .int .u8 t.ma, .int .u8 t.sp, .string t.t] := hF 2 (by decide)
    have e3 : u 3 = evv (evS t) := hF 3 (by decide)
    simp only [ogMk, Act.put, List.setIfInBounds_toArray, List.set_cons_zero, List.set_cons_succ, Nat.zero_add, Nat.reduceAdd, List.take_succ_cons, List.take_zero, List.drop_succ_cons, List.drop_zero]
    rw [e0, e1, e2, e3, h4, h5]
    clear e0 e1 e2 e3 h4 h5 hF
    have B4 := Lib.hid (B3.out.trans (hS.mono B3.out.size))
    have K4 := Lib.hid C4
    have K5 := Lib.hid C5
    have HB4 := Lib.hid hB4
    have HB5 := Lib.hid hB5
    clear hS C4 C5 hB4 hB5
    by_cases hbb : b5 = b4
    · subst hbb
      go_upto_region 4 with (first | (refine at_store41 _ _ b5 zev (evS s) K4.out rfl rfl rfl rfl ?_; intro w5 K6 B6 G6) | (refine at_store41 _ _ b5 (evS s) (evS t) K6.out rfl rfl rfl rfl ?_; intro w6 KQ B7 G7))
      have B8 := Lib.hid ((B4.out.trans (B6.out _ HB5.out)).trans (B7.out _ HB5.out))
      have LP := Lib.hid (show ∀ W, (∃ r : Regrown, W = Sort.grow (redrawn w6 r.d) r.os) → Cx W b5 (evl (evS t)) from by rintro W ⟨r, rfl⟩; exact KQ.out.belowX (below_regrown w6 r.d r.os))
      have LQ := Lib.hid (show ∀ W, (∃ r : Regrown, W = Sort.grow (redrawn w6 r.d) r.os) → Cx W b5 (evl (evS t)) from by rintro W ⟨r, rfl⟩; exact KQ.out.belowX (below_regrown w6 r.d r.os))
      have HTP := Lib.hid fun (d : Nat) (os : Array Obj) => Calls.regrown_of (d := d) (os := os) (text_any (evS t) (Sort.grow (redrawn w6 d) os) VT.out (HE.out.keep (B8.out.trans ((below_regrown w6 d os).mono B8.out.size))).tab)
      have HTQ := Lib.hid fun (d : Nat) (os : Array Obj) => Calls.regrown_of (d := d) (os := os) (text_any (evS t) (Sort.grow (redrawn w6 d) os) VT.out (HE.out.keep (B8.out.trans ((below_regrown w6 d os).mono B8.out.size))).tab)
      have HEQ := Lib.hid (apart_eq VT.out VT.out)
      refine wp_region_quiet_below (by kernel_rfl) (by kernel_rfl) ?_
      repeat (first | (refine quiet_load41 (.tmp 5) b5 (evS t) LP.out ?_ ?_ ?_ ?_; rotate_left; (with_reducible rfl); rfl; rotate_left; kernel_rfl; simp only [Act.put, List.setIfInBounds_toArray, List.set_cons_zero, List.set_cons_succ]) | (refine quiet_load41 (.tmp 6) b5 (evS t) LQ.out ?_ ?_ ?_ ?_; rotate_left; (with_reducible rfl); rfl; rotate_left; kernel_rfl; simp only [Act.put, List.setIfInBounds_toArray, List.set_cons_zero, List.set_cons_succ]) | (refine quiet_eql41 (.tmp 18) (.tmp 19) (evS t) (evS t) ?_ ?_ ?_ ?_ ?_; rotate_left; (with_reducible rfl); rfl; rfl; rotate_left; kernel_rfl; simp only [Act.put, List.setIfInBounds_toArray, List.set_cons_zero, List.set_cons_succ]) | go_big_quiet_step (first | (go_at_call 15; first | (with_reducible exact HTP.out _ _) | (with_reducible exact HTQ.out _ _))))
      refine wpQuiet_nil ?_
      rintro _ ⟨⟨dq, osq⟩, rfl⟩
      have B9 := Lib.hid (B8.out.trans ((below_regrown w6 dq osq).mono B8.out.size))
      go_wp2_with fail
      go_ret
      exact ⟨ret_bool (by first | exact HEQ.out | exact eqE_refl _), B9.out⟩
    · have HBB := Lib.hid hbb
      go_upto_region 4 with (first | (refine at_store41 _ _ b4 zev (evS s) K4.out rfl rfl rfl rfl ?_; intro w5 K6 B6 G6; have K7 := Lib.hid (cx_other K5.out G6.out HBB.out)) | (refine at_store41 _ _ b5 zev (evS t) K7.out rfl rfl rfl rfl ?_; intro w6 KQ B7 G7; have KP := Lib.hid (cx_other K6.out G7.out (Ne.symm HBB.out))))
      have B8 := Lib.hid ((B4.out.trans (B6.out _ HB4.out)).trans (B7.out _ HB5.out))
      have LP := Lib.hid (show ∀ W, (∃ r : Regrown, W = Sort.grow (redrawn w6 r.d) r.os) → Cx W b4 (evl (evS s)) from by rintro W ⟨r, rfl⟩; exact KP.out.belowX (below_regrown w6 r.d r.os))
      have LQ := Lib.hid (show ∀ W, (∃ r : Regrown, W = Sort.grow (redrawn w6 r.d) r.os) → Cx W b5 (evl (evS t)) from by rintro W ⟨r, rfl⟩; exact KQ.out.belowX (below_regrown w6 r.d r.os))
      have HTP := Lib.hid fun (d : Nat) (os : Array Obj) => Calls.regrown_of (d := d) (os := os) (text_any (evS s) (Sort.grow (redrawn w6 d) os) VS.out (HE.out.keep (B8.out.trans ((below_regrown w6 d os).mono B8.out.size))).tab)
      have HTQ := Lib.hid fun (d : Nat) (os : Array Obj) => Calls.regrown_of (d := d) (os := os) (text_any (evS t) (Sort.grow (redrawn w6 d) os) VT.out (HE.out.keep (B8.out.trans ((below_regrown w6 d os).mono B8.out.size))).tab)
      have HEQ := Lib.hid (apart_eq VS.out VT.out)
      refine wp_region_quiet_below (by kernel_rfl) (by kernel_rfl) ?_
      repeat (first | (refine quiet_load41 (.tmp 5) b4 (evS s) LP.out ?_ ?_ ?_ ?_; rotate_left; (with_reducible rfl); rfl; rotate_left; kernel_rfl; simp only [Act.put, List.setIfInBounds_toArray, List.set_cons_zero, List.set_cons_succ]) | (refine quiet_load41 (.tmp 6) b5 (evS t) LQ.out ?_ ?_ ?_ ?_; rotate_left; (with_reducible rfl); rfl; rotate_left; kernel_rfl; simp only [Act.put, List.setIfInBounds_toArray, List.set_cons_zero, List.set_cons_succ]) | (refine quiet_eql41 (.tmp 18) (.tmp 19) (evS s) (evS t) ?_ ?_ ?_ ?_ ?_; rotate_left; (with_reducible rfl); rfl; rfl; rotate_left; kernel_rfl; simp only [Act.put, List.setIfInBounds_toArray, List.set_cons_zero, List.set_cons_succ]) | go_big_quiet_step (first | (go_at_call 15; first | (with_reducible exact HTP.out _ _) | (with_reducible exact HTQ.out _ _))))
      refine wpQuiet_nil ?_
      rintro _ ⟨⟨dq, osq⟩, rfl⟩
      have B9 := Lib.hid (B8.out.trans ((below_regrown w6 dq osq).mono B8.out.size))
      go_wp2_with fail
      go_ret
      exact ⟨ret_bool (by first | exact HEQ.out | exact eqE_refl _), B9.out⟩
end Go.Proofs.YtegbdagmnibfmaaDoor
