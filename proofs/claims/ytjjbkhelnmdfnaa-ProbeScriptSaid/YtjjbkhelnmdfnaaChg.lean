/-
  The contracts of probe.Put and probe.Match. Conditions: the row lies in memory, and has up to 900 questions.
-/
import Derived.Test.YtjjbkhelnmdfnaaRpr
import Derived.Test.YtjjbkhelnmdfnaaOt
set_option linter.unusedSimpArgs false
set_option linter.unusedVariables false
namespace Go.Proofs.Ytjjbkhelnmdfnaa
open Go.RowKit

theorem calls_fx {f : FuncId} {args : Array Value} {W : World} {v : Value} {Φ : List (Value → World → Prop)} {i : Nat} (h : Calls Try.prog f args W fun e w' => e = .returned v ∧ Below W.heap.size W w') (hi : fAt Φ i = fx v) :
    Calls Try.prog f args W fun e w' => ∃ v, e = .returned v ∧ Below W.heap.size W w' ∧ fAt Φ i v w' := h.mono fun _ _ ⟨he, hb⟩ => ⟨v, he, hb, by rw [hi]; exact rfl⟩

/-- The parts, in a row of their own. -/
def pF (ps : List (Pt Pr)) : Value → World → Prop := fun v W => ∃ b, v = .slice (some ⟨b, 0, none⟩) ps.length ps.length ∧ Pm eP W b ps
theorem Pm.below {w w' : World} {b : Nat} {ps : List (Pt Pr)} (h : Pm eP w b ps) (hb : Below w.heap.size w w') : Pm eP w' b ps :=
  ⟨Nat.lt_of_lt_of_le h.1 hb.size, fun k p hp => ⟨by rw [hb.cell (p := ⟨b, k, none⟩) h.1]; exact (h.2 k p hp).1, (h.2 k p hp).2.below hb⟩⟩
theorem stable_pF (ps : List (Pt Pr)) : Stable (pF ps) := fun _ _ _ ⟨b, hv, hP⟩ hb => ⟨b, hv, hP.below hb⟩
/-- A row of the call's own. -/
def oF (B : Nat) (ys : List Pr) : Value → World → Prop := fun v W => W.ownsRow B 37 5 v ys.length (eP.cs ys)
theorem stable_oF (B : Nat) (ys : List Pr) : Stable (oF B ys) := fun _ _ _ h hb => own_keep h hb
/-- A row of one. -/
def hF (h : Pr) : Value → World → Prop := fun v W => ∃ b, v = .slice (some ⟨b, 0, none⟩) 1 1 ∧ Rw eP W (some ⟨b, 0, none⟩) [h]
theorem stable_hF (h : Pr) : Stable (hF h) := fun _ _ _ ⟨b, hv, hP⟩ hb => ⟨b, hv, hP.below hb⟩
theorem pm_two (W : World) (p q : Pt Pr) (t : TypeId) (hp : Rw eP W p.A p.xs) (hq : Rw eP W q.A q.xs) : Pm eP (W.alloc (.cells #[.slice p.A p.xs.length p.c, .slice q.A q.xs.length q.c] t)) W.heap.size [p, q] := by
  refine ⟨by simp, fun k r hr => ?_⟩
  match k, hr with
  | 0, hr => simp at hr; subst hr; exact ⟨by simp, hp.below ((Below.refl _ _).alloc (Nat.le_refl _) _)⟩
  | 1, hr => simp at hr; subst hr; exact ⟨by simp, hq.below ((Below.refl _ _).alloc (Nat.le_refl _) _)⟩
  | k + 2, hr => simp at hr
theorem pm_three (W : World) (p q s : Pt Pr) (t : TypeId) (hp : Rw eP W p.A p.xs) (hq : Rw eP W q.A q.xs) (hs : Rw eP W s.A s.xs) : Pm eP (W.alloc (.cells #[.slice p.A p.xs.length p.c, .slice q.A q.xs.length q.c, .slice s.A s.xs.length s.c] t)) W.heap.size [p, q, s] := by
  refine ⟨by simp, fun k r hr => ?_⟩
  match k, hr with
  | 0, hr => simp at hr; subst hr; exact ⟨by simp, hp.below ((Below.refl _ _).alloc (Nat.le_refl _) _)⟩
  | 1, hr => simp at hr; subst hr; exact ⟨by simp, hq.below ((Below.refl _ _).alloc (Nat.le_refl _) _)⟩
  | 2, hr => simp at hr; subst hr; exact ⟨by simp, hs.below ((Below.refl _ _).alloc (Nat.le_refl _) _)⟩
  | k + 3, hr => simp at hr
theorem hs_box (W : World) (x : Pr) : Rw eP (W.alloc (Prx x)) (some ⟨W.heap.size, 0, none⟩) [x] := by
  refine ⟨by simp, fun q z hq => ?_⟩
  match q, hq with
  | 0, hq =>
    simp at hq
    subst hq
    refine ⟨_, rfl, fun j v hv => ?_⟩
    rw [Addr.add_mid]
    have hv' : (prl x)[j]? = some v := hv
    have := (qb_box W x).1 j v hv'
    simpa [eP] using this
  | q + 1, hq => simp at hq

/-- What a change hands back: a row, and a number. -/
def OutPost (w : World) (ys : List Pr) (q : Int) (e : Ending) (w' : World) : Prop :=
  ∃ A cap, e = .returned (.tuple #[.slice A ys.length cap, .int .i64 q]) ∧ ys.length ≤ cap ∧ cap ≤ maxLen ∧ Rw eP w' A ys ∧ Below w.heap.size w w'
theorem out_no (w w' : World) (q : Int) (hb : Below w.heap.size w w') : OutPost w [] q (.returned (.tuple #[.slice none 0 0, .int .i64 q])) w' :=
  ⟨none, 0, rfl, by simp, by unfold maxLen; omega, Rw.nil _ _, hb⟩
theorem out_yes {w w' : World} {B : Nat} {v : Value} {ys : List Pr} (h : w'.ownsRow B 37 5 v ys.length (eP.cs ys)) (hn : ys.length ≤ 1000) (hb : Below w.heap.size w w') : OutPost w ys 0 (.returned (.tuple #[v, .int .i64 0])) w' := by
  obtain ⟨A, cap, rfl, hc, hm, _, hH, _⟩ := own_rw (E := eP) h (by omega)
  exact ⟨A, cap, rfl, hc, hm, hH, hb⟩

/-- The row with one more, and what is told. -/
def putC (xs : List Pr) (p : Pr) : Int := if toB xs p.a = true then 6 else if 16 ≤ xs.length then 4 else 0
def putR (xs : List Pr) (p : Pr) : List Pr := if putC xs p = 0 then xs ++ [p] else []
/-- The row without what a packet answers, and what is told. -/
def del (xs : List Pr) (k : Nat) : List Pr := xs.take k ++ xs.drop (k + 1)
def matC (xs : List Pr) (p : Pk) : Int := if plB (plc p xs) = true then 0 else 7
def matR (xs : List Pr) (p : Pk) : List Pr := match plc p xs with
  | some k => del xs k
  | none => []

set_option maxRecDepth 100000 in
set_option maxHeartbeats 4000000 in
theorem put_any (x : Pr) (A : Option Addr) (xs : List Pr) (cap : Nat) (w : World) (h : Rw eP w A xs) (hc : xs.length ≤ cap) (hx9 : xs.length ≤ 900) :
    Calls Try.prog 16 #[.slice A xs.length cap, prv x] w (OutPost w (putR xs x) (putC xs x)) := by
  have hln := h.1
  have HB0 := Lib.hid (show Below w.heap.size w (w.alloc (Prx x)) from (Below.refl _ w).alloc (Nat.le_refl _) _)
  have R0 := Lib.hid (h.below HB0.out)
  have Q0 := Lib.hid (qb_box w x)
  obtain ⟨b0, -, -, -, -⟩ := pr_box w x
  have HTO := Lib.hid (anyTo_any x.a A xs cap (w.alloc (Prx x)) R0.out)
  have HPC := Lib.hid (show putC xs x = if toB xs x.a = true then 6 else if 16 ≤ xs.length then 4 else 0 from rfl)
  have HPR := Lib.hid (show putR xs x = if putC xs x = 0 then xs ++ [x] else [] from rfl)
  unfold prv Prx at *
  cases hB : toB xs x.a
  · rw [hB] at HTO
    have hBf : ¬ (toB xs x.a = true) := by rw [hB]; simp
    by_cases h16 : 16 ≤ xs.length
    · have h16' : (16 : Int) ≤ xs.length := by omega
      have HT := Lib.hid (show putR xs x = [] ∧ putC xs x = 4 by
        have e : putC xs x = 4 := by rw [HPC.out, if_neg hBf, if_pos h16]
        exact ⟨by rw [HPR.out, e]; rfl, e⟩)
      rw [HT.out.1, HT.out.2]
      clear h HT hB hBf HPC HPR
      generalize xs.length = L at *
      go_enter Try.func16, Try.ntmps16
      go_wp2_with fail
      generalize w.alloc (.cells #[.int .u32 x.a, .int .i64 x.i, .int .i64 x.s, .int .i64 x.t, .int .i64 x.n] 37) = W at *
      refine HTO.out.mono ?_
      rintro e w1 ⟨rfl, hb⟩
      have B1 := Lib.hid (HB0.out.trans (hb.mono HB0.out.size))
      clear hb
      go_wp2_with fail
      go_ret2
      exact out_no w w1 4 B1.out
    · have h16' : decide ((16 : Int) ≤ xs.length) = false := decide_eq_false (by omega)
      obtain ⟨ys, hys⟩ : ∃ ys, xs ++ [x] = ys := ⟨_, rfl⟩
      have HT := Lib.hid (show putR xs x = ys ∧ putC xs x = 0 by
        have e : putC xs x = 0 := by rw [HPC.out, if_neg hBf, if_neg h16]
        exact ⟨by rw [HPR.out, e, ← hys]; rfl, e⟩)
      rw [HT.out.1, HT.out.2]
      have hyl : ys.length ≤ 1000 := by rw [← hys, List.length_append]; simp; omega
      have HYL := Lib.hid hyl
      have HCC := Lib.hid (show ∀ W g, Rw eP W A xs → Rw eP W (some ⟨g, 0, none⟩) [x] → Calls Try.prog 25 #[.slice (some ⟨W.heap.size, 0, none⟩) 2 2] (W.alloc (.cells #[.slice A xs.length cap, .slice (some ⟨g, 0, none⟩) 1 1] 29)) (OwnPost eP 37 (W.alloc (.cells #[.slice A xs.length cap, .slice (some ⟨g, 0, none⟩) 1 1] 29)) ys) from fun W g hA hX => by
        have hp := pm_two W ⟨A, xs, cap⟩ ⟨some ⟨g, 0, none⟩, [x], 1⟩ 29 hA hX
        have := concat_any [⟨A, xs, cap⟩, ⟨some ⟨g, 0, none⟩, [x], 1⟩] W.heap.size 2 _ hp (by simp [cat]; omega) (by simp)
        rw [show cat [(⟨A, xs, cap⟩ : Pt Pr), ⟨some ⟨g, 0, none⟩, [x], 1⟩] [(⟨A, xs, cap⟩ : Pt Pr), ⟨some ⟨g, 0, none⟩, [x], 1⟩].length = ys by rw [← hys]; simp [cat]] at this
        exact this)
      clear h HT hB hBf HPC HPR hyl hys
      generalize xs.length = L at *
      go_enter Try.func16, Try.ntmps16
      go_wp2_with fail
      generalize w.alloc (.cells #[.int .u32 x.a, .int .i64 x.i, .int .i64 x.s, .int .i64 x.t, .int .i64 x.n] 37) = W at *
      refine HTO.out.mono ?_
      rintro e w1 ⟨rfl, hb⟩
      have B1 := Lib.hid (HB0.out.trans (hb.mono HB0.out.size))
      have R1 := Lib.hid (R0.out.below hb)
      have Q1 := Lib.hid (Q0.out.below hb)
      clear hb b0 Q0 R0
      have RX := Lib.hid (hs_box w1 x)
      have R2 := Lib.hid (R1.out.below ((Below.refl _ w1).alloc (Nat.le_refl _) (Prx x)))
      have HC2 := Lib.hid (HCC.out _ _ R2.out RX.out)
      have B2 := Lib.hid ((B1.out.alloc B1.out.size (Prx x)).alloc (Nat.le_trans B1.out.size (by simp)) (.cells #[.slice A L cap, .slice (some ⟨w1.heap.size, 0, none⟩) 1 1] 29))
      unfold Prx at *
      go_wp2_with (refine at_load37 (.tmp 3) rfl rfl _ x rfl Q1.out.at ?_)
      rw [World.size_alloc] at HC2
      refine HC2.out.mono ?_
      rintro e w3 ⟨v, rfl, ho, hb⟩
      have B3 := Lib.hid (B2.out.trans (hb.mono B2.out.size))
      have O3 := Lib.hid ho
      clear hb ho
      go_wp2_with fail
      go_ret2
      exact out_yes O3.out HYL.out B3.out
  · rw [hB] at HTO
    have HT := Lib.hid (show putR xs x = [] ∧ putC xs x = 6 by
      have e : putC xs x = 6 := by rw [HPC.out, if_pos hB]
      exact ⟨by rw [HPR.out, e]; rfl, e⟩)
    rw [HT.out.1, HT.out.2]
    clear h HT hB HPC HPR
    generalize xs.length = L at *
    go_enter Try.func16, Try.ntmps16
    go_wp2_with fail
    generalize w.alloc (.cells #[.int .u32 x.a, .int .i64 x.i, .int .i64 x.s, .int .i64 x.t, .int .i64 x.n] 37) = W at *
    refine HTO.out.mono ?_
    rintro e w1 ⟨rfl, hb⟩
    have B1 := Lib.hid (HB0.out.trans (hb.mono HB0.out.size))
    clear hb
    go_wp2_with fail
    go_ret2
    exact out_no w w1 6 B1.out

set_option maxRecDepth 100000 in
set_option maxHeartbeats 4000000 in
theorem match_any (p : Pk) (A : Option Addr) (xs : List Pr) (cap : Nat) (w : World) (h : Rw eP w A xs) (hc : xs.length ≤ cap) (hx9 : xs.length ≤ 900) :
    Calls Try.prog 15 #[.slice A xs.length cap, pkv p] w (OutPost w (matR xs p) (matC xs p)) := by
  have hln := h.1
  have HB0 := Lib.hid (show Below w.heap.size w (w.alloc (Pkx p)) from (Below.refl _ w).alloc (Nat.le_refl _) _)
  have K0 := Lib.hid (kb_box w p)
  have HP := Lib.hid (place_any p A xs cap (w.alloc (Pkx p)) (h.below HB0.out))
  cases hB : plc p xs with
  | none =>
    have HT := Lib.hid (show matR xs p = [] ∧ matC xs p = 7 by simp [matR, matC, hB, plB])
    rw [hB] at HP
    rw [HT.out.1, HT.out.2]
    clear hB h HT
    generalize xs.length = L at *
    dsimp only [plI, plB] at HP
    unfold pkv Pkx at *
    go_enter Try.func15, Try.ntmps15
    go_wp2_with (refine at_load44 (.tmp 3) rfl rfl _ p rfl K0.out.at ?_)
    refine HP.out.mono ?_
    rintro e w1 ⟨rfl, hb⟩
    have B1 := Lib.hid (HB0.out.trans (hb.mono HB0.out.size))
    clear hb
    go_wp2_with fail
    go_ret2
    exact out_no w w1 7 B1.out
  | some P =>
    have hlt := plc_lt hB
    have HT := Lib.hid (show matR xs p = del xs P ∧ matC xs p = 0 by simp [matR, matC, hB, plB])
    rw [hB] at HP
    dsimp only [plI, plB] at HP
    rw [HT.out.1, HT.out.2]
    obtain ⟨y, rfl⟩ := rw_some h (by omega)
    obtain ⟨ys, hys⟩ : ∃ ys, del xs P = ys := ⟨_, rfl⟩
    obtain ⟨ps, hps⟩ : ∃ ps : List (Pt Pr), ps = [⟨some y, xs.take P, cap⟩, ⟨dA 5 (some y) cap (P + 1), xs.drop (P + 1), cap - (P + 1)⟩] := ⟨_, rfl⟩
    have e1 : (xs.take P).length = P := by rw [List.length_take]; omega
    have e2 : (xs.drop (P + 1)).length = xs.length - (P + 1) := by rw [List.length_drop]
    have hcat : cat ps ps.length = ys := by rw [← hys, hps]; simp [cat, del]
    have hyl : ys.length ≤ 1000 := by rw [← hys]; unfold del; rw [List.length_append, e1, e2]; omega
    have HPM := Lib.hid (show ∀ W, Below w.heap.size w W → pF ps (.slice (some ⟨W.heap.size, 0, none⟩) 2 2) (W.alloc (.cells #[.slice (some y) P cap, .slice (dA 5 (some y) cap (P + 1)) (xs.length - (P + 1)) (cap - (P + 1))] 29)) from fun W hW => by
      subst hps
      have hH := h.below hW
      have := pm_two W ⟨some y, xs.take P, cap⟩ ⟨dA 5 (some y) cap (P + 1), xs.drop (P + 1), cap - (P + 1)⟩ 29 (hH.take _) (hH.rest hc _)
      dsimp only at this
      rw [e1, e2] at this
      exact ⟨_, rfl, this⟩)
    have HCC := Lib.hid (show ∀ W, Below w.heap.size w W → ∀ b, Pm eP W b ps → Calls Try.prog 25 #[.slice (some ⟨b, 0, none⟩) 2 2] W fun e w' => ∃ v, e = .returned v ∧ Below W.heap.size W w' ∧ oF w.heap.size ys v w' from fun W hW b hb => by
      have := concat_any ps b 2 W hb (by rw [hcat]; omega) (by rw [hps]; simp)
      rw [hcat, show ps.length = 2 by rw [hps]; rfl] at this
      refine this.mono ?_
      rintro e w' ⟨v, he, ho, hbb⟩
      exact ⟨v, he, hbb, own_base ho hW.size⟩)
    have HSH := Lib.hid (fun W => run_sl29 (some y) xs.length cap P (by omega) W)
    have HSL := Lib.hid (fun W => run_sl29l (some y) xs.length cap (P + 1) (by omega) hc W)
    have HPL := Lib.hid (show ps.length = 2 by rw [hps]; rfl)
    have HYL := Lib.hid hyl
    rw [hys]
    have HW := Lib.hid (show IntKind.i64.wrap ((P : Int) + 1) = (P : Int) + 1 by rw [IntKind.wrap_i64]; omega)
    clear hps hcat hys hyl e1 e2 h HT hB
    generalize xs.length = L at *
    unfold pkv Pkx at *
    go_enter Try.func15, Try.ntmps15
    go_wp2_with (refine at_load44 (.tmp 3) rfl rfl _ p rfl K0.out.at ?_)
    refine HP.out.mono ?_
    rintro e w1 ⟨rfl, hb⟩
    have HB1 := Lib.hid (HB0.out.trans (hb.mono HB0.out.size))
    clear hb
    go_wp2_with fail
    refine wp_region_below [fx (.slice (some y) L cap), fx (.int .i64 (P : Int)), fx (.slice (some y) P cap), fx (.slice (some y) L cap), fx (.int .i64 (P : Int)), fx (.int .i64 ((P + 1 : Nat) : Int)), fx (.slice (dA 5 (some y) cap (P + 1)) (L - (P + 1)) (cap - (P + 1))), pF ps, oF w.heap.size ys, oF w.heap.size ys, fx (.int .i64 0)]
      (by kernel_rfl) (by kernel_rfl) (by kernel_rfl) ?_ ?_ ?_
    · simp only [List.mem_cons, List.not_mem_nil, or_false]
      rintro φ (rfl | rfl | rfl | rfl | rfl | rfl | rfl | rfl | rfl | rfl | rfl)
      all_goals first | exact stable_fx _ | exact stable_fr _ _ | exact stable_pF _ | exact stable_oF _ _
    · refine OgSteps.cons ?_ (OgSteps.cons ?_ (OgSteps.cons ?_ (OgSteps.cons ?_ (OgSteps.cons ?_ (OgSteps.cons ?_ (OgSteps.cons ?_ (OgSteps.cons ?_ (OgSteps.cons ?_ (OgSteps.cons ?_ (OgSteps.cons ?_ (OgSteps.nil)))))))))))
      · refine OgStep.pure ?_ ?_
        · rfl
        intro u W hS hp
        refine ⟨.slice (some y) L cap, ?_, rfl⟩
        simp only [ogMk, Act.put, List.setIfInBounds_toArray, List.set_cons_zero, List.set_cons_succ, Nat.zero_add, Nat.reduceAdd, List.take_succ_cons, List.take_zero, List.drop_succ_cons, List.drop_zero]
        simp [execOp, Act.eval, go_sem]
      · refine OgStep.pure ?_ ?_
        · rfl
        intro u W hS hp
        refine ⟨.int .i64 (P : Int), ?_, rfl⟩
        simp only [ogMk, Act.put, List.setIfInBounds_toArray, List.set_cons_zero, List.set_cons_succ, Nat.zero_add, Nat.reduceAdd, List.take_succ_cons, List.take_zero, List.drop_succ_cons, List.drop_zero]
        simp [execOp, Act.eval, go_sem]
      · refine OgStep.pure ?_ ?_
        · rfl
        intro u W hS hp
        have h0 : u 0 = .slice (some y) L cap := hp ⟨0, .data⟩ (by simp) rfl
        have h1 : u 1 = .int .i64 (P : Int) := hp ⟨1, .data⟩ (by simp) rfl
        have R := HSH.out W
        refine ⟨.slice (some y) P cap, ?_, rfl⟩
        simp only [ogMk, Act.put, List.setIfInBounds_toArray, List.set_cons_zero, List.set_cons_succ, Nat.zero_add, Nat.reduceAdd, List.take_succ_cons, List.take_zero, List.drop_succ_cons, List.drop_zero]
        simp [execOp, Act.eval, go_sem, h0, h1, R]
      · refine OgStep.pure ?_ ?_
        · rfl
        intro u W hS hp
        refine ⟨.slice (some y) L cap, ?_, rfl⟩
        simp only [ogMk, Act.put, List.setIfInBounds_toArray, List.set_cons_zero, List.set_cons_succ, Nat.zero_add, Nat.reduceAdd, List.take_succ_cons, List.take_zero, List.drop_succ_cons, List.drop_zero]
        simp [execOp, Act.eval, go_sem]
      · refine OgStep.pure ?_ ?_
        · rfl
        intro u W hS hp
        refine ⟨.int .i64 (P : Int), ?_, rfl⟩
        simp only [ogMk, Act.put, List.setIfInBounds_toArray, List.set_cons_zero, List.set_cons_succ, Nat.zero_add, Nat.reduceAdd, List.take_succ_cons, List.take_zero, List.drop_succ_cons, List.drop_zero]
        simp [execOp, Act.eval, go_sem]
      · refine OgStep.pure ?_ ?_
        · rfl
        intro u W hS hp
        have h4 : u 4 = .int .i64 (P : Int) := hp ⟨4, .data⟩ (by simp) rfl
        have R := HW.out
        refine ⟨.int .i64 ((P + 1 : Nat) : Int), ?_, rfl⟩
        simp only [ogMk, Act.put, List.setIfInBounds_toArray, List.set_cons_zero, List.set_cons_succ, Nat.zero_add, Nat.reduceAdd, List.take_succ_cons, List.take_zero, List.drop_succ_cons, List.drop_zero]
        simp [execOp, Act.eval, go_sem, h4, R]
      · refine OgStep.pure ?_ ?_
        · rfl
        intro u W hS hp
        have h3 : u 3 = .slice (some y) L cap := hp ⟨3, .data⟩ (by simp) rfl
        have h5 : u 5 = .int .i64 ((P + 1 : Nat) : Int) := hp ⟨5, .data⟩ (by simp) rfl
        have R := HSL.out W
        rw [show ((P + 1 : Nat) : Int) = (P : Int) + 1 by omega] at R
        refine ⟨.slice (dA 5 (some y) cap (P + 1)) (L - (P + 1)) (cap - (P + 1)), ?_, rfl⟩
        simp only [ogMk, Act.put, List.setIfInBounds_toArray, List.set_cons_zero, List.set_cons_succ, Nat.zero_add, Nat.reduceAdd, List.take_succ_cons, List.take_zero, List.drop_succ_cons, List.drop_zero]
        simp [execOp, Act.eval, go_sem, h3, h5, R]
      · refine OgStep.made ?_ ?_
        · rfl
        intro u W hS hp
        have h2 : u 2 = .slice (some y) P cap := hp ⟨2, .data⟩ (by simp) rfl
        have h6 : u 6 = .slice (dA 5 (some y) cap (P + 1)) (L - (P + 1)) (cap - (P + 1)) := hp ⟨6, .data⟩ (by simp) rfl
        refine ⟨.slice (some ⟨W.heap.size, 0, none⟩) 2 2, _, ?_, (Below.refl _ W).alloc (Nat.le_refl _) _, HPM.out W (HB1.out.trans (hS.mono HB1.out.size))⟩
        simp only [ogMk, Act.put, List.setIfInBounds_toArray, List.set_cons_zero, List.set_cons_succ, Nat.zero_add, Nat.reduceAdd, List.take_succ_cons, List.take_zero, List.drop_succ_cons, List.drop_zero]
        simp [execOp, Act.eval, go_sem, h2, h6]
      · refine OgStep.calls ?_ ?_
        · rfl
        intro u W hS hp
        obtain ⟨b, h7, hPm⟩ : pF ps (u 7) W := hp ⟨7, .data⟩ (by simp) rfl
        refine ⟨25, #[.slice (some ⟨b, 0, none⟩) 2 2], ?_, HCC.out W (HB1.out.trans (hS.mono HB1.out.size)) b hPm⟩
        simp only [ogMk, Act.put, List.setIfInBounds_toArray, List.set_cons_zero, List.set_cons_succ, Nat.zero_add, Nat.reduceAdd, List.take_succ_cons, List.take_zero, List.drop_succ_cons, List.drop_zero]
        rw [h7, HPL.out]
        simp [execOp, Act.eval, go_sem]
      · refine OgStep.pure ?_ ?_
        · rfl
        intro u W hS hp
        have h8 : oF w.heap.size ys (u 8) W := hp ⟨8, .data⟩ (by simp) rfl
        refine ⟨u 8, ?_, h8⟩
        simp only [ogMk, Act.put, List.setIfInBounds_toArray, List.set_cons_zero, List.set_cons_succ, Nat.zero_add, Nat.reduceAdd, List.take_succ_cons, List.take_zero, List.drop_succ_cons, List.drop_zero]
        simp [execOp, Act.eval, go_sem]
      · refine OgStep.pure ?_ ?_
        · rfl
        intro u W hS hp
        refine ⟨.int .i64 0, ?_, rfl⟩
        simp only [ogMk, Act.put, List.setIfInBounds_toArray, List.set_cons_zero, List.set_cons_succ, Nat.zero_add, Nat.reduceAdd, List.take_succ_cons, List.take_zero, List.drop_succ_cons, List.drop_zero]
        simp [execOp, Act.eval, go_sem]
    · intro u W hS hF'
      have hF9 : oF w.heap.size ys (u 9) W := hF' 9 (by decide)
      have hF := hF'
      have e0 : u 0 = .slice (some y) L cap := hF 0 (by decide)
      have e1 : u 1 = .int .i64 (P : Int) := hF 1 (by decide)
      have e2 : u 2 = .slice (some y) P cap := hF 2 (by decide)
      have e3 : u 3 = .slice (some y) L cap := hF 3 (by decide)
      have e4 : u 4 = .int .i64 (P : Int) := hF 4 (by decide)
      have e5 : u 5 = .int .i64 ((P + 1 : Nat) : Int) := hF 5 (by decide)
      have e6 : u 6 = .slice (dA 5 (some y) cap (P + 1)) (L - (P + 1)) (cap - (P + 1)) := hF 6 (by decide)
      have e10 : u 10 = .int .i64 0 := hF 10 (by decide)
      simp only [ogMk, Act.put, List.setIfInBounds_toArray, List.set_cons_zero, List.set_cons_succ, Nat.zero_add, Nat.reduceAdd, List.take_succ_cons, List.take_zero, List.drop_succ_cons, List.drop_zero]
      rw [e0, e1, e2, e3, e4, e5, e6, e10]
      clear hF' e0 e1 e2 e3 e4 e5 e6 e10 hF
      go_wp2_with fail
      go_ret2
      exact out_yes (hF9 : W.ownsRow w.heap.size 37 5 (u 9) ys.length (eP.cs ys)) HYL.out (HB1.out.trans (hS.mono HB1.out.size))
end Go.Proofs.Ytjjbkhelnmdfnaa
