/-
  SeenKeep's walk: the last eight sightings are kept. Conditions: the sightings lie in memory.
-/
import Derived.Test.YtcnhagcmklgpkaaSom
import Derived.Test.YtcnhagcmklgpkaaTl
set_option linter.unusedSimpArgs false
set_option linter.unusedVariables false
namespace Go.Proofs.Ytcnhagcmklgpkaa
open Go.RowKit

/-- An append, as an operation. -/
theorem exec_append {a : Act} {o : Oper} {W W' : World} {v vs vx : Value} {S : TypeId} (s x : Operand) (ho : o.op = .call { callee := .builtin .append, args := #[s, x], argTypes := #[S, S] }) (hs : a.eval s = vs) (hx : a.eval x = vx)
    (hr : (Builtin.append_ #[S, S] o.type #[vs, vx]).run Try.prog W = .ok v W') : (execOp a.eval o).run Try.prog W = .ok (.value v) W' := by
  unfold execOp
  simp only [ho, resolve, invoke, builtin, Sem.run_bind, Sem.run_pure, Result.andThen_ok, List.map_toArray, List.map_cons, List.map_nil, hs, hx, hr]
/-- A row of sightings of the call's own. -/
def oS (B : Nat) (ss : List Sg) : Value → World → Prop := fun v W => W.ownsRow B 35 8 v ss.length (eS.cs ss)
theorem stable_oS (B : Nat) (ss : List Sg) : Stable (oS B ss) := fun _ _ _ h hb => own_keep h hb
/-- Sightings appended to nothing. -/
theorem new_row (W : World) (ty : TypeId) (B : Nat) (hB : B ≤ W.heap.size) (A : Option Addr) (ys : List Sg) (c : Nat) (hr : Rw eS W A ys) (hl : ys.length ≤ 1000000000) :
    ∃ v W', (Builtin.append_ #[39, 39] ty #[.slice none 0 0, .slice A ys.length c]).run Try.prog W = .ok v W' ∧ Below W.heap.size W W' ∧ oS B ys v W' := by
  obtain ⟨v1, W1, hr1, ho1, hg1⟩ := run_append_rw tS W B ty (.slice none 0 0) 0 [] (World.ownsRow_nil _ _ _ _) A ys.length c ys rfl hr (by omega) hB
  refine ⟨v1, W1, hr1, (Below.refl _ W).grown hg1 (Nat.le_refl _) (by intro k hk; cases hk), ?_⟩
  show W1.ownsRow B 35 eS.N v1 ys.length (eS.cs ys)
  simpa using ho1

set_option maxRecDepth 100000 in
set_option maxHeartbeats 4000000 in
theorem seenKeep_walk (A : Option Addr) (xs : List Sg) (cap : Nat) (s : Sg) (w : World) (h : Rw eS w A xs) (hcap : xs.length ≤ cap) :
    Calls Try.prog 4 #[.slice A xs.length cap, sv s] w fun e w' => e = .returned (.bool true) ∧ Below w.heap.size w w' := by
  obtain ⟨L, hL⟩ : ∃ L : Nat, min (xs.length : Int) 50 = L := ⟨min xs.length 50, by omega⟩
  have hLn : min xs.length 50 = L := by omega
  have hL50 : L ≤ 50 := by omega
  have hLz : L ≤ xs.length := by omega
  have hLc : (L : Int) ≤ cap := by omega
  have hz := h.1
  obtain ⟨ys, hys⟩ : ∃ ys, xs.take L = ys := ⟨_, rfl⟩
  have hyl : ys.length = L := by rw [← hys, List.length_take]; omega
  have HYL := Lib.hid hyl
  have hA0 : Below w.heap.size w (w.alloc (Sx s)) := (Below.refl _ w).alloc (Nat.le_refl _) _
  have HB0 := Lib.hid hA0
  have HR0 := Lib.hid (show Rw eS (w.alloc (Sx s)) A ys from hys ▸ (h.take L).below hA0)
  have HBX0 := Lib.hid (rw_one w s)
  have HAW := Lib.hid (awake_any (w.alloc (Sx s)))
  have HKP := Lib.hid (show ∀ W, Rw eS W A ys → Calls Try.prog 16 #[.slice A L cap, sv s] W (SPost W (kp ys s)) from fun W hW => by
    have := keep_any s A ys cap W hW (by omega) (by omega)
    rw [hyl] at this
    exact this)
  have HEQ := Lib.hid (show (ys ++ [s]).drop (L - 7) = kp ys s by rw [kp_eq, List.length_append, hyl, List.length_singleton, show L + 1 - 8 = L - 7 by omega])
  have HSL := fun W c6 (hc : L + 1 ≤ c6) A6 => slS_l A6 (L + 1) c6 (L - 7) (by omega) hc W
  have hM : max (0 : Int) ((L : Int) + 1 - 8) = ((L - 7 : Nat) : Int) := by omega
  clear hys hyl h hA0
  generalize xs.length = XL at *
  obtain ⟨sf, x0, x1, x2, x3, x4, x5, st⟩ := s
  simp only [sv, Sx] at HB0 HR0 HBX0 HAW HKP ⊢
  go_enter Try.func4, Try.ntmps4
  go_wp2_with fail
  refine HAW.out.mono ?_
  rintro e w1 ⟨rfl, hb⟩
  have HR1 := Lib.hid (HR0.out.below hb)
  have HBX1 := Lib.hid (HBX0.out.below hb)
  have HB1 := Lib.hid (bthen HB0.out hb HB0.out.size)
  obtain ⟨R0, R1, R2, R3, R4, R5, R6, R7⟩ := s_c8 HBX1.out
  dsimp only at R0 R1 R2 R3 R4 R5 R6 R7
  clear hb HR0 HBX0 HB0 HAW
  go_wp2_with fail
  refine (HKP.out _ HR1.out).mono ?_
  rintro e w4 ⟨v4, rfl, hb, A5, c5, rfl, hc5, hm5, hR5⟩
  have HR := Lib.hid (HR1.out.below hb)
  have HBX := Lib.hid (HBX1.out.below hb)
  have HB4 := Lib.hid (bthen HB1.out hb HB1.out.size)
  have HR5 := Lib.hid hR5
  have HC5 := Lib.hid hc5
  have HNR := Lib.hid (show ∀ W, Below w4.heap.size w4 W → ∃ v W', (Builtin.append_ #[39, 39] 39 #[.slice none 0 0, .slice A L cap]).run Try.prog W = .ok v W' ∧ Below W.heap.size W W' ∧ oS w4.heap.size ys v W' from fun W hW => by
    have := new_row W 39 w4.heap.size hW.size A ys cap (HR.out.below hW) (by rw [HYL.out]; omega)
    rw [HYL.out] at this
    exact this)
  obtain ⟨KL, hKL⟩ : ∃ KL, (kp ys ⟨sf, x0, x1, x2, x3, x4, x5, st⟩).length = KL := ⟨_, rfl⟩
  have HKL := Lib.hid hKL
  rw [hKL]
  clear hb HR1 HBX1 HB1 hR5 hc5 hm5 R0 R1 R2 R3 R4 R5 R6 R7 HKP hKL
  go_upto_region 5 with fail
  refine wp_region_below_tail 4 [fx (.slice A L cap), oS w4.heap.size ys, fx (.agg #[.int .i64 sf, .int .u8 x0, .int .u8 x1, .int .u8 x2, .int .u8 x3, .int .u8 x4, .int .u8 x5, .int .i64 st]), sF [(⟨sf, x0, x1, x2, x3, x4, x5, st⟩ : Sg)]]
    (by kernel_rfl) (by simp) (by kernel_rfl) (by kernel_rfl) (by kernel_rfl) ?_ ?_ ?_
  · simp only [List.mem_cons, List.not_mem_nil, or_false]
    rintro φ (rfl | rfl | rfl | rfl)
    all_goals first | exact stable_fx _ | exact stable_fr _ _ | exact stable_oS _ _ | exact stable_sF _
  · refine OgSteps.cons ?_ (OgSteps.cons ?_ (OgSteps.cons ?_ (OgSteps.cons ?_ (OgSteps.nil))))
    · refine OgStep.pure ?_ ?_
      · rfl
      intro u W hS hp
      refine ⟨.slice A L cap, ?_, rfl⟩
      simp only [ogMk, Act.put, List.setIfInBounds_toArray, List.set_cons_zero, List.set_cons_succ, Nat.zero_add, Nat.reduceAdd, List.take_succ_cons, List.take_zero, List.drop_succ_cons, List.drop_zero]
      simp [execOp, Act.eval, go_sem]
    · refine OgStep.made ?_ ?_
      · rfl
      intro u W hS hp
      have h0 : u 0 = .slice A L cap := hp ⟨0, .data⟩ (by simp) rfl
      obtain ⟨v1, W1, hr1, hb1, ho1⟩ := HNR.out W hS
      refine ⟨v1, W1, exec_append (.const (.slice none 0 0)) (.tmp 17) rfl rfl ?_ hr1, hb1, ho1⟩
      simp only [ogMk, Act.put, List.setIfInBounds_toArray, List.set_cons_zero, List.set_cons_succ, Nat.zero_add, Nat.reduceAdd, List.take_succ_cons, List.take_zero, List.drop_succ_cons, List.drop_zero]
      simp [Act.eval, h0]
    · refine OgStep.pure ?_ ?_
      · rfl
      intro u W hS hp
      obtain ⟨R0, R1, R2, R3, R4, R5, R6, R7⟩ := s_c8 (HBX.out.below hS)
      refine ⟨.agg #[.int .i64 sf, .int .u8 x0, .int .u8 x1, .int .u8 x2, .int .u8 x3, .int .u8 x4, .int .u8 x5, .int .i64 st], ?_, rfl⟩
      simp only [ogMk, Act.put, List.setIfInBounds_toArray, List.set_cons_zero, List.set_cons_succ, Nat.zero_add, Nat.reduceAdd, List.take_succ_cons, List.take_zero, List.drop_succ_cons, List.drop_zero]
      simp [execOp, Act.eval, go_sem, R0, R1, R2, R3, R4, R5, R6, R7]
    · refine OgStep.made ?_ ?_
      · rfl
      intro u W hS hp
      have h2 : u 2 = .agg #[.int .i64 sf, .int .u8 x0, .int .u8 x1, .int .u8 x2, .int .u8 x3, .int .u8 x4, .int .u8 x5, .int .i64 st] := hp ⟨2, .data⟩ (by simp) rfl
      refine ⟨.slice (some ⟨W.heap.size, 0, none⟩) 1 1, _, ?_, (Below.refl _ W).alloc (Nat.le_refl _) _, sF_one W (⟨sf, x0, x1, x2, x3, x4, x5, st⟩ : Sg)⟩
      simp only [ogMk, Act.put, List.setIfInBounds_toArray, List.set_cons_zero, List.set_cons_succ, Nat.zero_add, Nat.reduceAdd, List.take_succ_cons, List.take_zero, List.drop_succ_cons, List.drop_zero]
      simp [execOp, Act.eval, go_sem, h2, Sx]
  · intro u W hS hF'
    have hF := hF'
    have e0 : u 0 = .slice A L cap := hF 0 (by decide)
    have e2 : u 2 = .agg #[.int .i64 sf, .int .u8 x0, .int .u8 x1, .int .u8 x2, .int .u8 x3, .int .u8 x4, .int .u8 x5, .int .i64 st] := hF 2 (by decide)
    simp only [ogMk, Act.put, List.setIfInBounds_toArray, List.set_cons_zero, List.set_cons_succ, Nat.zero_add, Nat.reduceAdd, List.take_succ_cons, List.take_zero, List.drop_succ_cons, List.drop_zero]
    rw [e0, e2]
    clear e0 e2 hF
    have hF1 : oS w4.heap.size ys (u 1) W := hF' 1 (by decide)
    obtain ⟨A3, c3, e3, _, _, hR3⟩ : sF [(⟨sf, x0, x1, x2, x3, x4, x5, st⟩ : Sg)] (u 3) W := hF' 3 (by decide)
    generalize hu1 : u 1 = v1 at *
    rw [e3]
    have HO1 := Lib.hid hF1
    have HS := Lib.hid hS
    have HR3 := Lib.hid hR3
    clear hF' hF1 hS hR3 e3 hu1
    refine wpList_append_rw tS W rfl (.tmp 18) (.tmp 20) rfl w4.heap.size v1 L ys (by simp [Act.eval, Act.put]) (by rw [← HYL.out]; exact HO1.out) A3 1 c3 [(⟨sf, x0, x1, x2, x3, x4, x5, st⟩ : Sg)] (by simp [Act.eval, Act.put]) rfl HR3.out (by omega) HS.out.size ?_
    intro v2 w2 ho2 hg2
    have HB2 := Lib.hid (bthen HB4.out (HS.out.grown hg2 HS.out.size (fun j hj => (HO1.out.lt j hj).1)) HB4.out.size)
    have HR2 := Lib.hid (HR5.out.below (HS.out.grown hg2 HS.out.size (fun j hj => (HO1.out.lt j hj).1)))
    obtain ⟨A6, c6, rfl, hc6, -, -, hR6, -⟩ := own_rw (E := eS) ho2 (by rw [List.length_append, HYL.out]; simp; omega)
    have hl6 : (ys ++ [(⟨sf, x0, x1, x2, x3, x4, x5, st⟩ : Sg)]).length = L + 1 := by rw [List.length_append, HYL.out]; rfl
    rw [hl6] at hc6 ⊢
    have HSM := Lib.hid (same_any A5 (dA 8 A6 c6 (L - 7)) (kp ys (⟨sf, x0, x1, x2, x3, x4, x5, st⟩ : Sg)) ((ys ++ [(⟨sf, x0, x1, x2, x3, x4, x5, st⟩ : Sg)]).drop (L - 7)) c5 (c6 - (L - 7)) w2 HR2.out (hR6.rest (by rw [hl6]; exact hc6) _) HC5.out (by rw [List.length_drop, hl6]; omega))
    rw [HEQ.out, HKL.out, show sameB (kp ys (⟨sf, x0, x1, x2, x3, x4, x5, st⟩ : Sg)) (kp ys (⟨sf, x0, x1, x2, x3, x4, x5, st⟩ : Sg)) = true from decide_eq_true rfl] at HSM
    have hKL2 : KL = L + 1 - (L - 7) := by rw [← HKL.out, ← HEQ.out, List.length_drop, hl6]
    replace HSL := fun W => HSL W c6 hc6 A6
    have HW2 := Lib.hid (show w2.heap.size = w2.heap.size from rfl)
    clear ho2 hg2 hR6 hl6 HNR HO1 HS HR3 HR2 HR HBX HB4
    go_wp2_with fail
    rw [← hKL2]
    refine HSM.out.mono ?_
    rintro e w3 ⟨rfl, n3, rfl⟩
    go_wp2_with fail
    go_ret
    exact ⟨rfl, bdrewN HB2.out n3⟩
end Go.Proofs.Ytcnhagcmklgpkaa
