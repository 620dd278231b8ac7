/-
  ConfigWider's walk: for every two times nine bytes it returns true, and nothing that lay in memory is touched. Conditions: bytes are bytes.
-/
import Derived.Test.YtfleppahimlbgaaLaws
namespace Go.Proofs.Ytfleppahimlbgaa
open Go.RowKit

set_option maxRecDepth 100000 in
set_option maxHeartbeats 2000000 in
theorem configWider_walk (x y : Hc) (w : World) (hx : x.Ok) (hy : y.Ok) : Calls Try.prog 6 #[hv x, hv y] w fun e w' => e = .returned (.bool true) ∧ Below w.heap.size w w' := by
  have CA := Lib.hid awake_any
  have CX := Lib.hid fun W => choice_any x W hx
  have CY := Lib.hid fun W => choice_any y W hy
  have B0 := Lib.hid (((Below.refl w.heap.size w).alloc (Nat.le_refl _) (Hx x)).alloc (by simp) (Hx y))
  have X0 := Lib.hid ((hm_box w x).below ((Below.refl _ (w.alloc (Hx x))).alloc (Nat.le_refl _) (Hx y)))
  have Y0 := Lib.hid (hm_box (w.alloc (Hx x)) y)
  rw [World.size_alloc] at Y0
  unfold hv
  go_enter Try.func6, Try.ntmps6
  go_wp2_with fail
  refine (CA.out _).mono ?_
  rintro e w1 ⟨rfl, hb⟩
  have B1 := Lib.hid (B0.out.trans (hb.mono B0.out.size))
  have X1 := Lib.hid fun W (h : Below w1.heap.size w1 W) => (X0.out.below hb).below h
  have Y1 := Lib.hid fun W (h : Below w1.heap.size w1 W) => (Y0.out.below hb).below h
  clear hb B0 X0 Y0
  go_upto_region 3 with fail
  refine wp_region_two [hv x, cv (ch x), hv y, cv (ch y)] ⟨4, 6, 5, 7⟩ (fun w g => Cb w g z9) (fun w g => Cb w g (ch x)) (fun w g => Cb w g z9) (fun w g => Cb w g (ch y)) (by kernel_rfl) (by kernel_rfl) (by kernel_rfl) (by decide) (by simp) (of_cb _) (of_cb _) (of_cb _) (of_cb _) ?_ ?_ ?_ ?_ ?_ ?_
  · refine BxSteps.cons ?_ (BxSteps.cons ?_ (BxSteps.cons ?_ (BxSteps.cons ?_ (BxSteps.cons ?_ (BxSteps.cons ?_ (BxSteps.cons ?_ (BxSteps.cons ?_ BxSteps.nil)))))))
    · refine BxStep.pure ?_ ?_
      · rfl
      intro u W hS hp
      have hl := loadAt25 (X1.out W hS)
      simp only [ogMk, Act.put, List.setIfInBounds_toArray, List.set_cons_zero, List.set_cons_succ, Nat.zero_add, Nat.reduceAdd]
      simp [execOp, Act.eval, hl]
    · refine BxStep.calls ?_ ?_
      · rfl
      intro u W hS hp
      have h0 : u 0 = hv x := hp ⟨0, .data⟩ (by simp) rfl (by decide)
      refine ⟨10, #[hv x], ?_, calls_cv (CX.out W) rfl⟩
      simp only [ogMk, Act.put, List.setIfInBounds_toArray, List.set_cons_zero, List.set_cons_succ, Nat.zero_add, Nat.reduceAdd]
      simp [Act.eval, go_sem, h0]
    · refine BxStep.pure ?_ ?_
      · rfl
      intro u W hS hp
      have hl := loadAt25 (Y1.out W hS)
      simp only [ogMk, Act.put, List.setIfInBounds_toArray, List.set_cons_zero, List.set_cons_succ, Nat.zero_add, Nat.reduceAdd]
      simp [execOp, Act.eval, hl]
    · refine BxStep.calls ?_ ?_
      · rfl
      intro u W hS hp
      have h0 : u 2 = hv y := hp ⟨2, .data⟩ (by simp) rfl (by decide)
      refine ⟨10, #[hv y], ?_, calls_cv (CY.out W) rfl⟩
      simp only [ogMk, Act.put, List.setIfInBounds_toArray, List.set_cons_zero, List.set_cons_succ, Nat.zero_add, Nat.reduceAdd]
      simp [Act.eval, go_sem, h0]
    all_goals exact BxStep.four (by decide)
  · intro o ho
    obtain rfl := Option.some.inj ho
    exact new_of (t := 23) (fun W ev => by simp [execOp, go_sem]; rfl) rfl
  · intro o ho
    obtain rfl := Option.some.inj ho
    exact new_of (t := 23) (fun W ev => by simp [execOp, go_sem]; rfl) rfl
  · intro o ho
    obtain rfl := Option.some.inj ho
    refine put_of (t := 23) size23 rfl _ _ 1 (ch x) rfl ?_ ?_ (by decide) rfl ?_ ?_
    · kernel_rfl
    · kernel_rfl
    · intro u
      simp only [ogMk, Act.put, List.setIfInBounds_toArray, List.set_cons_zero, List.set_cons_succ, Nat.zero_add, Nat.reduceAdd]
      simp [Act.eval]
    · intro u
      simp only [ogMk, Act.put, List.setIfInBounds_toArray, List.set_cons_zero, List.set_cons_succ, Nat.zero_add, Nat.reduceAdd]
      simp [Act.eval]
  · intro o ho
    obtain rfl := Option.some.inj ho
    refine put_of (t := 23) size23 rfl _ _ 3 (ch y) rfl ?_ ?_ (by decide) rfl ?_ ?_
    · kernel_rfl
    · kernel_rfl
    · intro u
      simp only [ogMk, Act.put, List.setIfInBounds_toArray, List.set_cons_zero, List.set_cons_succ, Nat.zero_add, Nat.reduceAdd]
      simp [Act.eval]
    · intro u
      simp only [ogMk, Act.put, List.setIfInBounds_toArray, List.set_cons_zero, List.set_cons_succ, Nat.zero_add, Nat.reduceAdd]
      simp [Act.eval]
  · intro u W g g' hb hu hg hg' hgb hgb' hV hV' hne
    have e0 : u 0 = hv x := hu 0 (by decide) (by decide)
    have e1 : u 1 = cv (ch x) := hu 1 (by decide) (by decide)
    have e2 : u 2 = hv y := hu 2 (by decide) (by decide)
    have e3 : u 3 = cv (ch y) := hu 3 (by decide) (by decide)
    simp only [ogMk, Act.put, List.setIfInBounds_toArray, List.set_cons_zero, List.set_cons_succ, Nat.zero_add, Nat.reduceAdd]
    have hg : u 4 = _ := hg
    have hg' : u 5 = _ := hg'
    rw [e0, e1, e2, e3, hg, hg']
    clear e0 e1 e2 e3 hg hg' hu
    have B2 := Lib.hid (B1.out.trans (hb.mono B1.out.size))
    obtain ⟨a0, a1, a2, a3, a4, a5, a6, a7, a8⟩ := hV.1.c
    obtain ⟨b0, b1, b2, b3, b4, b5, b6, b7, b8⟩ := hV'.1.c
    have OM := Lib.hid (mx_ok (ch_ok x) (ch_ok y))
    have hw2 := B2.out.size
    have P0 := Lib.hid (cb_box W z9 23)
    clear hb hV hV' hgb hgb' hne B1 X1 Y1 CX CY hx hy
    go_upto_region 5 with (refine at_store23 _ _ _ z9 (mx (ch x) (ch y)) P0.out rfl rfl rfl rfl ?_; intro w3 P3 B3)
    clear a0 a1 a2 a3 a4 a5 a6 a7 a8 b0 b1 b2 b3 b4 b5 b6 b7 b8 P0
    have E3 := Lib.hid ((B2.out.alloc hw2 (Cx z9 23)).trans (B3.out _ hw2))
    clear B2 B3
    generalize mx (ch x) (ch y) = m at *
    generalize W.heap.size = h at *
    have LM := Lib.hid fun W (h : Rg w3 W) => P3.out.1.below (below_rg h)
    have R1 := Lib.hid fun d os => Calls.regrown_of (rt_ok OM.out ▸ right_any m (Sort.grow (redrawn w3 d) os))
    have F1 := Lib.hid fun d os => Calls.regrown_of (ok_ft OM.out ▸ fit_any m (Sort.grow (redrawn w3 d) os))
    refine wp_region_quiet_below (by kernel_rfl) (by kernel_rfl) ?_
    (try simp only [Act.put])
    repeat (first
      | (refine quiet_load23 (.tmp 7) h m LM.out ?_ ?_ ?_ ?_; rotate_left; (with_reducible rfl); rfl; rotate_left; kernel_rfl; simp only [Act.put, List.setIfInBounds_toArray, List.set_cons_zero, List.set_cons_succ])
      | (refine quiet_eql23 (.tmp 65) (.tmp 66) m m ?_ ?_ ?_ ?_ ?_; rotate_left; (with_reducible rfl); rfl; rfl; rotate_left; kernel_rfl; simp only [Act.put, List.setIfInBounds_toArray, List.set_cons_zero, List.set_cons_succ]; rw [eqc_refl])
      | go_big_quiet_step (first | (go_at_call 9; with_reducible exact R1.out _ _) | (go_at_call 12; with_reducible exact F1.out _ _)))
    refine wpQuiet_nil ?_
    intro w4 hw4
    have D4 := Lib.hid (below_rg hw4)
    clear hw4
    go_wp2_with fail
    go_ret
    exact ⟨rfl, E3.out.trans (D4.out.mono E3.out.size)⟩
end Go.Proofs.Ytfleppahimlbgaa
