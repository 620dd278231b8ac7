/-
  The contract of Right: the first place that is wrong. No condition.
-/
import Derived.Test.YtfleppahimlbgaaFit
import Derived.Test.YtfleppahimlbgaaBx
namespace Go.Proofs.Ytfleppahimlbgaa
open Go.RowKit

theorem of_cb (x : Cf) : OfCells (fun w g => Cb w g x) :=
  ⟨fun _ _ h => h.1.lt, fun w w' g h k => ⟨fun j v hv => by rw [(h _).1]; exact k.1 j v hv, fun j hj => by rw [(h _).1, (h _).2]; exact k.2 j hj⟩⟩
theorem cell_setCells_other {b g : Nat} (h : g ≠ b) (o k : Nat) (vs : List Value) (w : World) : (w.setCells b k vs).cell? ⟨g, o, none⟩ = w.cell? ⟨g, o, none⟩ :=
  World.cell?_setCells_out b vs k w _ fun e => absurd e h
section
variable {Q : Exit → Act → World → Prop} {l : List Oper} {a : Act} {Φ : List Value} {f : Four} {p : Nat} {o : Oper}
theorem new_of {t : TypeId} (hr : ∀ (w : World) (ev : Operand → Value), (execOp ev o).run Try.prog w = .ok (.value (.pointer (some ⟨w.heap.size, 0, none⟩))) (w.alloc (Cx z9 t))) (hg : o.guard = none) : BxNew Try.prog Q l a (fun w g => Cb w g z9) o := by
  refine ⟨hg, fun u w => ?_⟩
  unfold Oper.wp
  rw [hr]
  exact ⟨rfl, (Below.refl _ _).alloc (Nat.le_refl _) _, by simp, cb_box w z9 t⟩
theorem put_of {t : TypeId} (hi : (Try.prog.info? t).map (·.size) = some 9) (hg : o.guard = none) (x y : Operand) (j : Nat) (q : Cf) (ho : o.op = .store t x y) (hp : (o.after.any fun e => Region.binds .any e && decide (e.on = p)) = true) (hj : (o.after.any fun e => Region.binds .any e && decide (e.on = j)) = true)
    (hfj : f.is j = false) (hq : Φ.getD j undef = cv q) (hx : ∀ u, (ogMk 0 l u a).eval x = u p) (hy : ∀ u, (ogMk 0 l u a).eval y = u j) : BxPut Try.prog Q l a Φ f p (fun w g => Cb w g z9) (fun w g => Cb w g q) o := by
  refine ⟨hg, hp, fun u w g hu hz hpre => ?_⟩
  obtain ⟨e, he, hj⟩ := Array.any_eq_true'.1 hj
  simp only [Bool.and_eq_true, decide_eq_true_eq] at hj
  have hv := hpre e he hj.1 (by rw [hj.2]; exact hfj)
  rw [hj.2, hq] at hv
  refine wp_store_mid t x y ho g 0 (cl q).toArray (by rw [hx, hu]) (by rw [hy, hv]; rfl) hz.2 hi (cl_one q) ?_
  exact ⟨⟨undef, rfl⟩, fun B hB => below_put hB _ _ _ (Below.refl _ _), fun h o hh => ⟨cell_setCells_other hh _ _ _ _, World.frozen?_setCells _ _ _ _ _⟩, hz.put q⟩
end
theorem calls_cv {fn : FuncId} {args : Array Value} {w : World} {v v' : Value} (h : Calls Try.prog fn args w fun e w' => e = .returned v ∧ Below w.heap.size w w') (e : v = v') : Calls Try.prog fn args w fun e w' => e = .returned v' ∧ Below w.heap.size w w' := e ▸ h

theorem right_any (x : Cf) (w : World) : Calls Try.prog 9 #[cv x] w fun e w' => e = .returned (.int .i64 (rt x)) ∧ Below w.heap.size w w' := by
  have CF := Lib.hid fields_any
  have CT := Lib.hid fit_any
  have B0 := Lib.hid ((Below.refl w.heap.size w).alloc (Nat.le_refl _) (Cx x 23))
  have K0 := Lib.hid fun W (h : Below (w.alloc (Cx x 23)).heap.size (w.alloc (Cx x 23)) W) => (cm_box w x 23).below h
  have hS : w.heap.size ≤ (w.alloc (Cx x 23)).heap.size := by simp
  unfold cv
  go_enter Try.func9, Try.ntmps9
  go_upto_region 1 with fail
  change (Code.region _ _ _).wp _ _ _ (w.alloc (Cx x 23))
  generalize (w.alloc (Cx x 23)) = w1 at *
  refine wp_region_two [cv x, cv x, cv x, cv (ft x), cv (ft x)] ⟨5, 7, 6, 8⟩ (fun w g => Cb w g z9) (fun w g => Cb w g x) (fun w g => Cb w g z9) (fun w g => Cb w g (ft x)) (by kernel_rfl) (by kernel_rfl) (by kernel_rfl) (by decide) (by simp) (of_cb _) (of_cb _) (of_cb _) (of_cb _) ?_ ?_ ?_ ?_ ?_ ?_
  · refine BxSteps.cons ?_ (BxSteps.cons ?_ (BxSteps.cons ?_ (BxSteps.cons ?_ (BxSteps.cons ?_ (BxSteps.cons ?_ (BxSteps.cons ?_ (BxSteps.cons ?_ (BxSteps.cons ?_ BxSteps.nil))))))))
    · refine BxStep.pure ?_ ?_
      · rfl
      intro u W hS hp
      have hl := loadAt23 (K0.out W hS)
      simp only [ogMk, Act.put, List.setIfInBounds_toArray, List.set_cons_zero, List.set_cons_succ, Nat.zero_add, Nat.reduceAdd]
      simp [execOp, Act.eval, hl]
    · refine BxStep.calls ?_ ?_
      · rfl
      intro u W hS hp
      have h0 : u 0 = cv x := hp ⟨0, .data⟩ (by simp) rfl (by decide)
      refine ⟨13, #[cv x], ?_, calls_cv (CF.out x W) rfl⟩
      simp only [ogMk, Act.put, List.setIfInBounds_toArray, List.set_cons_zero, List.set_cons_succ, Nat.zero_add, Nat.reduceAdd]
      simp [Act.eval, go_sem, h0]
    · refine BxStep.pure ?_ ?_
      · rfl
      intro u W hS hp
      have hl := loadAt23 (K0.out W hS)
      simp only [ogMk, Act.put, List.setIfInBounds_toArray, List.set_cons_zero, List.set_cons_succ, Nat.zero_add, Nat.reduceAdd]
      simp [execOp, Act.eval, hl]
    · refine BxStep.calls ?_ ?_
      · rfl
      intro u W hS hp
      have h0 : u 2 = cv x := hp ⟨2, .data⟩ (by simp) rfl (by decide)
      refine ⟨12, #[cv x], ?_, calls_cv (CT.out x W) rfl⟩
      simp only [ogMk, Act.put, List.setIfInBounds_toArray, List.set_cons_zero, List.set_cons_succ, Nat.zero_add, Nat.reduceAdd]
      simp [Act.eval, go_sem, h0]
    · refine BxStep.calls ?_ ?_
      · rfl
      intro u W hS hp
      have h0 : u 3 = cv (ft x) := hp ⟨3, .data⟩ (by simp) rfl (by decide)
      refine ⟨13, #[cv (ft x)], ?_, calls_cv (CF.out (ft x) W) rfl⟩
      simp only [ogMk, Act.put, List.setIfInBounds_toArray, List.set_cons_zero, List.set_cons_succ, Nat.zero_add, Nat.reduceAdd]
      simp [Act.eval, go_sem, h0]
    all_goals exact BxStep.four (by decide)
  · intro o ho
    obtain rfl := Option.some.inj ho
    exact new_of (t := 38) (fun W ev => by simp [execOp, go_sem]; rfl) rfl
  · intro o ho
    obtain rfl := Option.some.inj ho
    exact new_of (t := 38) (fun W ev => by simp [execOp, go_sem]; rfl) rfl
  · intro o ho
    obtain rfl := Option.some.inj ho
    refine put_of (t := 38) size38 rfl _ _ 1 x rfl ?_ ?_ (by decide) rfl ?_ ?_
    · kernel_rfl
    · kernel_rfl
    · intro u
      simp only [ogMk, Act.put, List.setIfInBounds_toArray, List.set_cons_zero, List.set_cons_succ, Nat.zero_add, Nat.reduceAdd]
      simp [Act.eval]
    · intro u
      simp only [ogMk, Act.put, List.setIfInBounds_toArray, List.set_cons_zero, List.set_cons_succ, Nat.zero_add, Nat.reduceAdd]
      simp [Act.eval]
  · intro o ho
    obtain rfl := Option.some.inj ho
    refine put_of (t := 38) size38 rfl _ _ 4 (ft x) rfl ?_ ?_ (by decide) rfl ?_ ?_
    · kernel_rfl
    · kernel_rfl
    · intro u
      simp only [ogMk, Act.put, List.setIfInBounds_toArray, List.set_cons_zero, List.set_cons_succ, Nat.zero_add, Nat.reduceAdd]
      simp [Act.eval]
    · intro u
      simp only [ogMk, Act.put, List.setIfInBounds_toArray, List.set_cons_zero, List.set_cons_succ, Nat.zero_add, Nat.reduceAdd]
      simp [Act.eval]
  · intro u W g g' hb hu hg hg' hgb hgb' hV hV' hne
    have e0 : u 0 = cv x := hu 0 (by decide) (by decide)
    have e1 : u 1 = cv x := hu 1 (by decide) (by decide)
    have e2 : u 2 = cv x := hu 2 (by decide) (by decide)
    have e3 : u 3 = cv (ft x) := hu 3 (by decide) (by decide)
    have e4 : u 4 = cv (ft x) := hu 4 (by decide) (by decide)
    simp only [ogMk, Act.put, List.setIfInBounds_toArray, List.set_cons_zero, List.set_cons_succ, Nat.zero_add, Nat.reduceAdd]
    have hg : u 5 = _ := hg
    have hg' : u 6 = _ := hg'
    rw [e0, e1, e2, e3, e4, hg, hg']
    clear e0 e1 e2 e3 e4 hg hg' hu
    have B1 := Lib.hid (B0.out.trans (hb.mono hS))
    have V := Lib.hid hV.1
    have V' := Lib.hid hV'.1
    clear hb hV hV' hgb hgb' hne B0 K0 hS
    go_upto_region 2 with fail
    go_wp2_with (refine at_load38 _ g x V.out rfl rfl rfl ?_)
    go_loop [13] (fun i => ∃ k : Nat, k ≤ 9 ∧ i = .int .i64 k ∧ rt x = ff (df x) k (9 - k)) (fun i => 9 - (intOf i).toNat)
    case atStart => exact ⟨0, by omega, rfl, rfl⟩
    case round =>
      obtain ⟨k, hk, rfl, hr⟩ := hrel
      have HR := Lib.hid hr
      clear hr
      by_cases hlt : k < 9
      · have c := V'.out.at hlt
        obtain ⟨n, hn⟩ : ∃ n : Nat, 9 - k = n + 1 := ⟨8 - k, by omega⟩
        have HN := Lib.hid hn
        clear hn
        by_cases hd : df x k = true
        · have e : (x.at k != (ft x).at k) = true := hd
          have HD := Lib.hid hd
          clear hd
          go_wp2_with (refine at_index38 _ _ x k hlt rfl rfl rfl rfl ?_)
          go_ret
          exact ⟨ret_int (by rw [HR.out, HN.out, ff, if_pos HD.out]), B1.out⟩
        · have e : (x.at k != (ft x).at k) = false := by simpa [df] using hd
          have HD := Lib.hid hd
          clear hd
          go_wp2_with (refine at_index38 _ _ x k hlt rfl rfl rfl rfl ?_)
          go_round
          case rel => exact ⟨k + 1, by omega, by go_num, by rw [HR.out, HN.out, ff, if_neg HD.out, show 9 - (k + 1) = n by have := HN.out; omega]⟩
          case measure => simp [intOf]; omega
      · obtain rfl : k = 9 := by omega
        go_wp2_with fail
        go_ret
        exact ⟨ret_int (by rw [HR.out]; rfl), B1.out⟩
end Go.Proofs.Ytfleppahimlbgaa
