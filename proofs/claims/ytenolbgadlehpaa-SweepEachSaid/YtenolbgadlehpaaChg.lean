/-
  The contracts of sweep.Take and sweep.Put. Conditions: the row lies in memory, has up to 900 sweeps, and addresses are numbers of 32 bits.
-/
import Derived.Test.YtenolbgadlehpaaRgt
import Derived.Test.YtenolbgadlehpaaOt
set_option linter.unusedSimpArgs false
set_option linter.unusedVariables false
namespace Go.Proofs.Ytenolbgadlehpaa
open Go.RowKit

/-- A variable of one's own with a sweep. -/
def Wb (w : World) (b : Nat) (x : Sw) : Prop := w.rangeAt b 0 (swl x) ∧ w.there b 0 4
theorem Wb.key {w : World} {b : Nat} {x : Sw} (h : Wb w b x) : ∀ j v, (swl x)[j]? = some v → w.cell? ⟨b, j, none⟩ = some v := fun j v hv => by
  have := h.1 j v hv
  rwa [Nat.zero_add] at this
theorem Wb.lt {w : World} {b : Nat} {x : Sw} (h : Wb w b x) : b < w.heap.size := World.block_lt_of_cell? _ _ (h.key 0 _ rfl)
theorem swl_one (x : Sw) : (swl x).toArray.all (·.oneCell') = true := by simp [swl, Value.oneCell']
theorem four {k : Nat} (h : k < 4) : k = 0 ∨ k = 1 ∨ k = 2 ∨ k = 3 := by omega
theorem wb_box (w : World) (x : Sw) : Wb (w.alloc (Swx x)) w.heap.size x := by
  have h : (w.alloc (Swx x)).heap[w.heap.size]? = some (Swx x) := heap_alloc_new w _
  have e : ∀ j, (w.alloc (Swx x)).cell? ⟨w.heap.size, j, none⟩ = _ := fun j => cell_of_row _ _ _ _ _ _ h
  refine ⟨fun j v hv => ?_, fun j hj => ⟨?_, ?_⟩⟩
  · rw [e, Nat.zero_add, ← hv]
    simp [swl]
  · rw [e, Nat.zero_add]
    rcases four hj with rfl | rfl | rfl | rfl <;> rfl
  · unfold World.frozen?
    rw [h]
    simp [Swx]
theorem Wb.keep {w w' : World} {b B : Nat} {x : Sw} (h : Wb w b x) (hb : Below B w w') (hB : b < B) : Wb w' b x :=
  ⟨fun j v hv => by rw [hb.cell (p := ⟨b, 0 + j, none⟩) hB]; exact h.1 j v hv, fun j hj => ⟨by rw [hb.cell (p := ⟨b, 0 + j, none⟩) hB]; exact (h.2 j hj).1, by rw [hb.frozen (p := ⟨b, 0 + j, none⟩) hB]; exact (h.2 j hj).2⟩⟩
theorem Wb.below {w w' : World} {b : Nat} {x : Sw} (h : Wb w b x) (hb : Below w.heap.size w w') : Wb w' b x := h.keep hb h.lt
theorem Wb.put {w : World} {b : Nat} {x : Sw} (h : Wb w b x) (y : Sw) : Wb (w.setCells b 0 (swl y)) b y :=
  ⟨World.rangeAt_setCells_same w b 0 (swl y) h.2, World.there_setCells h.2 b 0 (swl y)⟩
theorem at_store39 {ops : Array Oper} {rest : List Oper} {o : Oper} {a : Act} {w : World} {Q : Exit → Act → World → Prop} (x y : Operand) (b : Nat) (p q : Sw) (H : Wb w b p) (hgd : o.guard = none) (ho : o.op = .store 39 x y) (hx : a.eval x = .pointer (some ⟨b, 0, none⟩)) (hy : a.eval y = swv q)
    (h : ∀ w', Hid (Wb w' b q) → Hid (∀ B, B ≤ b → Below B w w') → wpList Try.prog ops Q rest (a.put o.dst undef) w') : wpList Try.prog ops Q (o :: rest) a w :=
  wpList_store_mid hgd 39 x y ho b 0 (swl q).toArray hx hy H.2 size39 (swl_one q) (h _ (H.put q) (fun _ hB => below_put hB _ _ _ (Below.refl _ _)))
/-- A new sweep that is zero. -/
def Nb (B : Nat) : Value → World → Prop := fun v W => ∃ b, v = .pointer (some ⟨b, 0, none⟩) ∧ B ≤ b ∧ b < W.heap.size ∧ Wb W b zw
theorem stable_nb (B : Nat) : Stable (Nb B) := by
  rintro v w w' ⟨b, rfl, h1, h2, h3⟩ hb
  exact ⟨b, rfl, h1, by have := hb.size; omega, h3.keep hb h2⟩
theorem calls_fx {f : FuncId} {args : Array Value} {W : World} {v : Value} {Φ : List (Value → World → Prop)} {i : Nat} (h : Calls Try.prog f args W fun e w' => e = .returned v ∧ Below W.heap.size W w') (hi : fAt Φ i = fx v) :
    Calls Try.prog f args W fun e w' => ∃ v, e = .returned v ∧ Below W.heap.size W w' ∧ fAt Φ i v w' := h.mono fun _ _ ⟨he, hb⟩ => ⟨v, he, hb, by rw [hi]; exact rfl⟩

/-- The parts, in a row of their own. -/
def pF (ps : List (Pt Sw)) : Value → World → Prop := fun v W => ∃ b, v = .slice (some ⟨b, 0, none⟩) ps.length ps.length ∧ Pm eW W b ps
theorem Pm.below {w w' : World} {b : Nat} {ps : List (Pt Sw)} (h : Pm eW w b ps) (hb : Below w.heap.size w w') : Pm eW w' b ps :=
  ⟨Nat.lt_of_lt_of_le h.1 hb.size, fun k p hp => ⟨by rw [hb.cell (p := ⟨b, k, none⟩) h.1]; exact (h.2 k p hp).1, (h.2 k p hp).2.below hb⟩⟩
theorem stable_pF (ps : List (Pt Sw)) : Stable (pF ps) := fun _ _ _ ⟨b, hv, hP⟩ hb => ⟨b, hv, hP.below hb⟩
/-- A row of the call's own. -/
def oF (B : Nat) (ys : List Sw) : Value → World → Prop := fun v W => W.ownsRow B 39 4 v ys.length (eW.cs ys)
theorem stable_oF (B : Nat) (ys : List Sw) : Stable (oF B ys) := fun _ _ _ h hb => own_keep h hb
/-- A row of one. -/
def hF (h : Sw) : Value → World → Prop := fun v W => ∃ b, v = .slice (some ⟨b, 0, none⟩) 1 1 ∧ Rw eW W (some ⟨b, 0, none⟩) [h]
theorem stable_hF (h : Sw) : Stable (hF h) := fun _ _ _ ⟨b, hv, hP⟩ hb => ⟨b, hv, hP.below hb⟩
theorem pm_two (W : World) (p q : Pt Sw) (t : TypeId) (hp : Rw eW W p.A p.xs) (hq : Rw eW W q.A q.xs) : Pm eW (W.alloc (.cells #[.slice p.A p.xs.length p.c, .slice q.A q.xs.length q.c] t)) W.heap.size [p, q] := by
  refine ⟨by simp, fun k r hr => ?_⟩
  match k, hr with
  | 0, hr => simp at hr; subst hr; exact ⟨by simp, hp.below ((Below.refl _ _).alloc (Nat.le_refl _) _)⟩
  | 1, hr => simp at hr; subst hr; exact ⟨by simp, hq.below ((Below.refl _ _).alloc (Nat.le_refl _) _)⟩
  | k + 2, hr => simp at hr
theorem pm_three (W : World) (p q s : Pt Sw) (t : TypeId) (hp : Rw eW W p.A p.xs) (hq : Rw eW W q.A q.xs) (hs : Rw eW W s.A s.xs) : Pm eW (W.alloc (.cells #[.slice p.A p.xs.length p.c, .slice q.A q.xs.length q.c, .slice s.A s.xs.length s.c] t)) W.heap.size [p, q, s] := by
  refine ⟨by simp, fun k r hr => ?_⟩
  match k, hr with
  | 0, hr => simp at hr; subst hr; exact ⟨by simp, hp.below ((Below.refl _ _).alloc (Nat.le_refl _) _)⟩
  | 1, hr => simp at hr; subst hr; exact ⟨by simp, hq.below ((Below.refl _ _).alloc (Nat.le_refl _) _)⟩
  | 2, hr => simp at hr; subst hr; exact ⟨by simp, hs.below ((Below.refl _ _).alloc (Nat.le_refl _) _)⟩
  | k + 3, hr => simp at hr
theorem hs_box (W : World) (x : Sw) : Rw eW (W.alloc (Swx x)) (some ⟨W.heap.size, 0, none⟩) [x] := by
  refine ⟨by simp, fun q z hq => ?_⟩
  match q, hq with
  | 0, hq =>
    simp at hq
    subst hq
    refine ⟨_, rfl, fun j v hv => ?_⟩
    rw [Addr.add_mid]
    have hv' : (swl x)[j]? = some v := hv
    have := (wb_box W x).1 j v hv'
    simpa [eW] using this
  | q + 1, hq => simp at hq

/-- What a change hands back: a row, and a number. -/
def OutPost (w : World) (ys : List Sw) (q : Int) (e : Ending) (w' : World) : Prop :=
  ∃ A cap, e = .returned (.tuple #[.slice A ys.length cap, .int .i64 q]) ∧ ys.length ≤ cap ∧ cap ≤ maxLen ∧ Rw eW w' A ys ∧ Below w.heap.size w w'
theorem out_no (w w' : World) (q : Int) (hb : Below w.heap.size w w') : OutPost w [] q (.returned (.tuple #[.slice none 0 0, .int .i64 q])) w' :=
  ⟨none, 0, rfl, by simp, by unfold maxLen; omega, Rw.nil _ _, hb⟩
theorem out_yes {w w' : World} {B : Nat} {v : Value} {ys : List Sw} (h : w'.ownsRow B 39 4 v ys.length (eW.cs ys)) (hn : ys.length ≤ 1000) (hb : Below w.heap.size w w') : OutPost w ys 0 (.returned (.tuple #[v, .int .i64 0])) w' := by
  obtain ⟨A, cap, rfl, hc, hm, _, hH, _⟩ := own_rw (E := eW) h (by omega)
  exact ⟨A, cap, rfl, hc, hm, hH, hb⟩

/-- The row without a prefix, and what is told. -/
def del (xs : List Sw) (a : Int) : List Sw := xs.take (lo xs a) ++ xs.drop (lo xs a + 1)
def takeC (xs : List Sw) (a b : Int) : Int := if isAt xs a b = true then 0 else 7
def takeR (xs : List Sw) (a b : Int) : List Sw := if isAt xs a b = true then del xs a else []
/-- The row with one more, and what is told. -/
def ins (xs : List Sw) (h : Sw) : List Sw := xs.take (lo xs h.a) ++ [h] ++ xs.drop (lo xs h.a)
def putC (xs : List Sw) (a b : Int) : Int := if okB a b = false then 12 else if 256 < p2 b then 3 else if anyB xs a b = true then 5 else if 16 ≤ xs.length then 4 else 0
def putR (xs : List Sw) (a b now : Int) : List Sw := if putC xs a b = 0 then ins xs ⟨a, b, cl now, 0⟩ else []
theorem isAt_lt {xs : List Sw} {a b : Int} (h : isAt xs a b = true) : lo xs a < xs.length := by
  unfold isAt at h
  split at h
  · rename_i x hx
    exact (List.getElem?_eq_some_iff.1 hx).1
  · cases h

set_option maxRecDepth 100000 in
set_option maxHeartbeats 4000000 in
theorem take_any (a b : Int) (A : Option Addr) (xs : List Sw) (cap : Nat) (w : World) (h : Rw eW w A xs) (hc : xs.length ≤ cap) (hx9 : xs.length ≤ 900) :
    Calls Try.prog 16 #[.slice A xs.length cap, .agg #[.int .u32 a, .int .i64 b]] w (OutPost w (takeR xs a b) (takeC xs a b)) := by
  have hle := lo_le a xs
  have hln := h.1
  have b0 : (w.alloc (Bkx a b)).cell? ⟨w.heap.size, 0, none⟩ = some (.int .u32 a) := by simp [Bkx]
  have b1 : (w.alloc (Bkx a b)).cell? ⟨w.heap.size, 1, none⟩ = some (.int .i64 b) := by simp [Bkx]
  have HB0 := Lib.hid (show Below w.heap.size w (w.alloc (Bkx a b)) from (Below.refl _ w).alloc (Nat.le_refl _) _)
  have HP := Lib.hid (place_any a b A xs cap (w.alloc (Bkx a b)) (h.below HB0.out))
  unfold Bkx at *
  cases hB : isAt xs a b
  · have HT := Lib.hid (show takeR xs a b = [] ∧ takeC xs a b = 7 by simp [takeR, takeC, hB])
    rw [hB] at HP
    rw [HT.out.1, HT.out.2]
    clear hB h HT
    generalize xs.length = L at *
    generalize lo xs a = P at *
    go_enter Try.func16, Try.ntmps16
    go_wp2_with fail
    generalize w.alloc (.cells #[.int .u32 a, .int .i64 b] 36) = W at *
    refine HP.out.mono ?_
    rintro e w1 ⟨rfl, hb⟩
    have B1 := Lib.hid (HB0.out.trans (hb.mono HB0.out.size))
    clear hb
    go_wp2_with fail
    go_ret2
    exact out_no w w1 7 B1.out
  · have hlt := isAt_lt hB
    have HT := Lib.hid (show takeR xs a b = del xs a ∧ takeC xs a b = 0 by simp [takeR, takeC, hB])
    rw [hB] at HP
    rw [HT.out.1, HT.out.2]
    obtain ⟨y, rfl⟩ := rw_some h (by omega)
    obtain ⟨ys, hys⟩ : ∃ ys, del xs a = ys := ⟨_, rfl⟩
    obtain ⟨ps, hps⟩ : ∃ ps : List (Pt Sw), ps = [⟨some y, xs.take (lo xs a), cap⟩, ⟨dA 4 (some y) cap (lo xs a + 1), xs.drop (lo xs a + 1), cap - (lo xs a + 1)⟩] := ⟨_, rfl⟩
    have e1 : (xs.take (lo xs a)).length = lo xs a := by rw [List.length_take]; omega
    have e2 : (xs.drop (lo xs a + 1)).length = xs.length - (lo xs a + 1) := by rw [List.length_drop]
    have hcat : cat ps ps.length = ys := by rw [← hys, hps]; simp [cat, del]
    have hyl : ys.length ≤ 1000 := by rw [← hys]; unfold del; rw [List.length_append, e1, e2]; omega
    have HPM := Lib.hid (show ∀ W, Below w.heap.size w W → pF ps (.slice (some ⟨W.heap.size, 0, none⟩) 2 2) (W.alloc (.cells #[.slice (some y) (lo xs a) cap, .slice (dA 4 (some y) cap (lo xs a + 1)) (xs.length - (lo xs a + 1)) (cap - (lo xs a + 1))] 29)) from fun W hW => by
      subst hps
      have hH := h.below hW
      have := pm_two W ⟨some y, xs.take (lo xs a), cap⟩ ⟨dA 4 (some y) cap (lo xs a + 1), xs.drop (lo xs a + 1), cap - (lo xs a + 1)⟩ 29 (hH.take _) (hH.rest hc _)
      dsimp only at this
      rw [e1, e2] at this
      exact ⟨_, rfl, this⟩)
    have HCC := Lib.hid (show ∀ W, Below w.heap.size w W → ∀ b, Pm eW W b ps → Calls Try.prog 30 #[.slice (some ⟨b, 0, none⟩) 2 2] W fun e w' => ∃ v, e = .returned v ∧ Below W.heap.size W w' ∧ oF w.heap.size ys v w' from fun W hW b hb => by
      have := concat_any ps b 2 W hb (by rw [hcat]; omega) (by rw [hps]; simp)
      rw [hcat, show ps.length = 2 by rw [hps]; rfl] at this
      refine this.mono ?_
      rintro e w' ⟨v, he, ho, hbb⟩
      exact ⟨v, he, hbb, own_base ho hW.size⟩)
    have HSH := Lib.hid (fun W => run_sl29 (some y) xs.length cap (lo xs a) (by omega) W)
    have HSL := Lib.hid (fun W => run_sl29l (some y) xs.length cap (lo xs a + 1) (by omega) hc W)
    have HPL := Lib.hid (show ps.length = 2 by rw [hps]; rfl)
    have HYL := Lib.hid hyl
    rw [hys]
    have HW := Lib.hid (show IntKind.i64.wrap ((lo xs a : Int) + 1) = (lo xs a : Int) + 1 by rw [IntKind.wrap_i64]; omega)
    clear hps hcat hys hyl e1 e2 h HT hB
    generalize xs.length = L at *
    generalize lo xs a = P at *
    go_enter Try.func16, Try.ntmps16
    go_wp2_with fail
    generalize w.alloc (.cells #[.int .u32 a, .int .i64 b] 36) = W0 at *
    refine HP.out.mono ?_
    rintro e w1 ⟨rfl, hb⟩
    have HB1 := Lib.hid (HB0.out.trans (hb.mono HB0.out.size))
    clear hb
    go_wp2_with fail
    refine wp_region_below [fx (.slice (some y) L cap), fx (.int .i64 (P : Int)), fx (.slice (some y) P cap), fx (.slice (some y) L cap), fx (.int .i64 (P : Int)), fx (.int .i64 ((P + 1 : Nat) : Int)), fx (.slice (dA 4 (some y) cap (P + 1)) (L - (P + 1)) (cap - (P + 1))), pF ps, oF w.heap.size ys, oF w.heap.size ys, fx (.int .i64 0)]
      (by kernel_rfl) (by kernel_rfl) (by kernel_rfl) ?_ ?_ ?_
    · simp only [List.mem_cons, List.not_mem_nil, or_false]
      rintro φ (rfl | rfl | rfl | rfl | rfl | rfl | rfl | rfl | rfl | rfl | rfl)
      all_goals first | exact stable_fx _ | exact stable_fr _ _ | exact stable_pF _ | exact stable_oF _ _
    · refine OgSteps.cons ?_ (OgSteps.cons ?_ (OgSteps.cons ?_ (OgSteps.cons ?_ (OgSteps.cons ?_ (OgSteps.cons ?_ (OgSteps.cons ?_ (OgSteps.cons ?_ (OgSteps.cons ?_ (OgSteps.cons ?_ (OgSteps.cons ?_ (OgSteps.nil)))))))))))
      · refine OgStep.pure ?_ ?_
        · rfl
        intro u W hS hp
        refine ⟨.slice (some y) L cap, ?_, rfl⟩
        simp only [ogMk, Act.put, List.setIfInBounds_toArray, List.set_cons_zero, List.set_cons_succ, Nat.zero_add, Nat.reduceAdd, List.take_succ_cons, List.take_zero, List.drop_succ_cons, List.drop_zero]
        simp [execOp, Act.eval, go_sem]
      · refine OgStep.pure ?_ ?_
        · rfl
        intro u W hS hp
        refine ⟨.int .i64 (P : Int), ?_, rfl⟩
        simp only [ogMk, Act.put, List.setIfInBounds_toArray, List.set_cons_zero, List.set_cons_succ, Nat.zero_add, Nat.reduceAdd, List.take_succ_cons, List.take_zero, List.drop_succ_cons, List.drop_zero]
        simp [execOp, Act.eval, go_sem]
      · refine OgStep.pure ?_ ?_
        · rfl
        intro u W hS hp
        have h0 : u 0 = .slice (some y) L cap := hp ⟨0, .data⟩ (by simp) rfl
        have h1 : u 1 = .int .i64 (P : Int) := hp ⟨1, .data⟩ (by simp) rfl
        have R := HSH.out W
        refine ⟨.slice (some y) P cap, ?_, rfl⟩
        simp only [ogMk, Act.put, List.setIfInBounds_toArray, List.set_cons_zero, List.set_cons_succ, Nat.zero_add, Nat.reduceAdd, List.take_succ_cons, List.take_zero, List.drop_succ_cons, List.drop_zero]
        simp [execOp, Act.eval, go_sem, h0, h1, R]
      · refine OgStep.pure ?_ ?_
        · rfl
        intro u W hS hp
        refine ⟨.slice (some y) L cap, ?_, rfl⟩
        simp only [ogMk, Act.put, List.setIfInBounds_toArray, List.set_cons_zero, List.set_cons_succ, Nat.zero_add, Nat.reduceAdd, List.take_succ_cons, List.take_zero, List.drop_succ_cons, List.drop_zero]
        simp [execOp, Act.eval, go_sem]
      · refine OgStep.pure ?_ ?_
        · rfl
        intro u W hS hp
        refine ⟨.int .i64 (P : Int), ?_, rfl⟩
        simp only [ogMk, Act.put, List.setIfInBounds_toArray, List.set_cons_zero, List.set_cons_succ, Nat.zero_add, Nat.reduceAdd, List.take_succ_cons, List.take_zero, List.drop_succ_cons, List.drop_zero]
        simp [execOp, Act.eval, go_sem]
      · refine OgStep.pure ?_ ?_
        · rfl
        intro u W hS hp
        have h4 : u 4 = .int .i64 (P : Int) := hp ⟨4, .data⟩ (by simp) rfl
        have R := HW.out
        refine ⟨.int .i64 ((P + 1 : Nat) : Int), ?_, rfl⟩
        simp only [ogMk, Act.put, List.setIfInBounds_toArray, List.set_cons_zero, List.set_cons_succ, Nat.zero_add, Nat.reduceAdd, List.take_succ_cons, List.take_zero, List.drop_succ_cons, List.drop_zero]
        simp [execOp, Act.eval, go_sem, h4, R]
      · refine OgStep.pure ?_ ?_
        · rfl
        intro u W hS hp
        have h3 : u 3 = .slice (some y) L cap := hp ⟨3, .data⟩ (by simp) rfl
        have h5 : u 5 = .int .i64 ((P + 1 : Nat) : Int) := hp ⟨5, .data⟩ (by simp) rfl
        have R := HSL.out W
        rw [show ((P + 1 : Nat) : Int) = (P : Int) + 1 by omega] at R
        refine ⟨.slice (dA 4 (some y) cap (P + 1)) (L - (P + 1)) (cap - (P + 1)), ?_, rfl⟩
        simp only [ogMk, Act.put, List.setIfInBounds_toArray, List.set_cons_zero, List.set_cons_succ, Nat.zero_add, Nat.reduceAdd, List.take_succ_cons, List.take_zero, List.drop_succ_cons, List.drop_zero]
        simp [execOp, Act.eval, go_sem, h3, h5, R]
      · refine OgStep.made ?_ ?_
        · rfl
        intro u W hS hp
        have h2 : u 2 = .slice (some y) P cap := hp ⟨2, .data⟩ (by simp) rfl
        have h6 : u 6 = .slice (dA 4 (some y) cap (P + 1)) (L - (P + 1)) (cap - (P + 1)) := hp ⟨6, .data⟩ (by simp) rfl
        refine ⟨.slice (some ⟨W.heap.size, 0, none⟩) 2 2, _, ?_, (Below.refl _ W).alloc (Nat.le_refl _) _, HPM.out W (HB1.out.trans (hS.mono HB1.out.size))⟩
        simp only [ogMk, Act.put, List.setIfInBounds_toArray, List.set_cons_zero, List.set_cons_succ, Nat.zero_add, Nat.reduceAdd, List.take_succ_cons, List.take_zero, List.drop_succ_cons, List.drop_zero]
        simp [execOp, Act.eval, go_sem, h2, h6]
      · refine OgStep.calls ?_ ?_
        · rfl
        intro u W hS hp
        obtain ⟨b, h7, hPm⟩ : pF ps (u 7) W := hp ⟨7, .data⟩ (by simp) rfl
        refine ⟨30, #[.slice (some ⟨b, 0, none⟩) 2 2], ?_, HCC.out W (HB1.out.trans (hS.mono HB1.out.size)) b hPm⟩
        simp only [ogMk, Act.put, List.setIfInBounds_toArray, List.set_cons_zero, List.set_cons_succ, Nat.zero_add, Nat.reduceAdd, List.take_succ_cons, List.take_zero, List.drop_succ_cons, List.drop_zero]
        rw [h7, HPL.out]
        simp [execOp, Act.eval, go_sem]
      · refine OgStep.pure ?_ ?_
        · rfl
        intro u W hS hp
        have h8 : oF w.heap.size ys (u 8) W := hp ⟨8, .data⟩ (by simp) rfl
        refine ⟨u 8, ?_, h8⟩
        simp only [ogMk, Act.put, List.setIfInBounds_toArray, List.set_cons_zero, List.set_cons_succ, Nat.zero_add, Nat.reduceAdd, List.take_succ_cons, List.take_zero, List.drop_succ_cons, List.drop_zero]
        simp [execOp, Act.eval, go_sem]
      · refine OgStep.pure ?_ ?_
        · rfl
        intro u W hS hp
        refine ⟨.int .i64 0, ?_, rfl⟩
        simp only [ogMk, Act.put, List.setIfInBounds_toArray, List.set_cons_zero, List.set_cons_succ, Nat.zero_add, Nat.reduceAdd, List.take_succ_cons, List.take_zero, List.drop_succ_cons, List.drop_zero]
        simp [execOp, Act.eval, go_sem]
    · intro u W hS hF'
      have hF9 : oF w.heap.size ys (u 9) W := hF' 9 (by decide)
      have hF := hF'
      have e0 : u 0 = .slice (some y) L cap := hF 0 (by decide)
      have e1 : u 1 = .int .i64 (P : Int) := hF 1 (by decide)
      have e2 : u 2 = .slice (some y) P cap := hF 2 (by decide)
      have e3 : u 3 = .slice (some y) L cap := hF 3 (by decide)
      have e4 : u 4 = .int .i64 (P : Int) := hF 4 (by decide)
      have e5 : u 5 = .int .i64 ((P + 1 : Nat) : Int) := hF 5 (by decide)
      have e6 : u 6 = .slice (dA 4 (some y) cap (P + 1)) (L - (P + 1)) (cap - (P + 1)) := hF 6 (by decide)
      have e10 : u 10 = .int .i64 0 := hF 10 (by decide)
      simp only [ogMk, Act.put, List.setIfInBounds_toArray, List.set_cons_zero, List.set_cons_succ, Nat.zero_add, Nat.reduceAdd, List.take_succ_cons, List.take_zero, List.drop_succ_cons, List.drop_zero]
      rw [e0, e1, e2, e3, e4, e5, e6, e10]
      clear hF' e0 e1 e2 e3 e4 e5 e6 e10 hF
      go_wp2_with fail
      go_ret2
      exact out_yes (hF9 : W.ownsRow w.heap.size 39 4 (u 9) ys.length (eW.cs ys)) HYL.out (HB1.out.trans (hS.mono HB1.out.size))


/-- The parts, one of them wherever it lies. -/
def pG (ps : Nat → List (Pt Sw)) : Value → World → Prop := fun v W => ∃ g, pF (ps g) v W
theorem stable_pG (ps : Nat → List (Pt Sw)) : Stable (pG ps) := fun _ _ _ ⟨g, h⟩ hb => ⟨g, stable_pF _ _ _ _ h hb⟩

set_option maxRecDepth 100000 in
set_option maxHeartbeats 8000000 in
theorem put_any (a b now : Int) (A : Option Addr) (xs : List Sw) (cap : Nat) (w : World) (h : Rw eW w A xs) (hu : Au xs) (hc : xs.length ≤ cap) (hx9 : xs.length ≤ 900) (ha0 : 0 ≤ a) (ha1 : a < 4294967296) :
    Calls Try.prog 17 #[.slice A xs.length cap, .agg #[.int .u32 a, .int .i64 b], .int .i64 now] w (OutPost w (putR xs a b now) (putC xs a b)) := by
  have hle := lo_le a xs
  have hln := h.1
  have b0 : (w.alloc (Bkx a b)).cell? ⟨w.heap.size, 0, none⟩ = some (.int .u32 a) := by simp [Bkx]
  have b1 : (w.alloc (Bkx a b)).cell? ⟨w.heap.size, 1, none⟩ = some (.int .i64 b) := by simp [Bkx]
  have hs : w.heap.size < (w.alloc (Bkx a b)).heap.size := by simp
  have HB0 := Lib.hid (show Below w.heap.size w (w.alloc (Bkx a b)) from (Below.refl _ w).alloc (Nat.le_refl _) _)
  have R0 := Lib.hid (h.below HB0.out)
  have HSZ := Lib.hid fun W => size_any a b W ha0 ha1
  have HPL := Lib.hid fun W (hR : Rw eW W A xs) => place_any a b A xs cap W hR
  have HCL := Lib.hid fun m W => clamp_any m W
  unfold Bkx at *
  cases hok : okB a b
  · have HT := Lib.hid (show putR xs a b now = [] ∧ putC xs a b = 12 by
      have e : putC xs a b = 12 := by unfold putC; rw [if_pos hok]
      exact ⟨by unfold putR; rw [e]; rfl, e⟩)
    have HRT := Lib.hid fun W => right_no a b W ha0 ha1 hok
    rw [HT.out.1, HT.out.2]
    clear h HT hok HPL
    generalize xs.length = L at *
    generalize lo xs a = P at *
    go_enter Try.func17, Try.ntmps17
    go_wp2_with fail
    generalize w.alloc (.cells #[.int .u32 a, .int .i64 b] 36) = W0 at *
    refine (HRT.out _).mono ?_
    rintro e W1 ⟨rfl, hb⟩
    have HB1 := Lib.hid (HB0.out.trans (hb.mono HB0.out.size))
    have R1 := Lib.hid (R0.out.below hb)
    have c0 : W1.cell? ⟨w.heap.size, 0, none⟩ = some (.int .u32 a) := by rw [hb.cell (p := ⟨w.heap.size, 0, none⟩) hs]; exact b0
    have c1 : W1.cell? ⟨w.heap.size, 1, none⟩ = some (.int .i64 b) := by rw [hb.cell (p := ⟨w.heap.size, 1, none⟩) hs]; exact b1
    have hs' : w.heap.size < W1.heap.size := Nat.lt_of_lt_of_le hs hb.size
    clear hb b0 b1 hs
    have b0 := c0
    have b1 := c1
    have hs := hs'
    clear c0 c1 hs'
    go_wp2_with fail
    go_ret2
    exact out_no w W1 12 HB1.out
  · have HRT := Lib.hid fun W => right_yes a b W ha0 ha1 hok
    have hse : sizeOf a b = p2 b := by simp [sizeOf, hok]
    by_cases h256 : 256 < p2 b
    · have HT := Lib.hid (show putR xs a b now = [] ∧ putC xs a b = 3 by
        have e : putC xs a b = 3 := by unfold putC; rw [if_neg (by rw [hok]; simp), if_pos h256]
        exact ⟨by unfold putR; rw [e]; rfl, e⟩)
      rw [HT.out.1, HT.out.2]
      rw [hse] at HSZ
      clear h HT hok HPL hse
      generalize xs.length = L at *
      generalize lo xs a = P at *
      generalize p2 b = Z at *
      go_enter Try.func17, Try.ntmps17
      go_wp2_with fail
      generalize w.alloc (.cells #[.int .u32 a, .int .i64 b] 36) = W0 at *
      refine (HRT.out _).mono ?_
      rintro e W1 ⟨rfl, hb⟩
      have HB1 := Lib.hid (HB0.out.trans (hb.mono HB0.out.size))
      have R1 := Lib.hid (R0.out.below hb)
      have c0 : W1.cell? ⟨w.heap.size, 0, none⟩ = some (.int .u32 a) := by rw [hb.cell (p := ⟨w.heap.size, 0, none⟩) hs]; exact b0
      have c1 : W1.cell? ⟨w.heap.size, 1, none⟩ = some (.int .i64 b) := by rw [hb.cell (p := ⟨w.heap.size, 1, none⟩) hs]; exact b1
      have hs' : w.heap.size < W1.heap.size := Nat.lt_of_lt_of_le hs hb.size
      clear hb b0 b1 hs
      have b0 := c0
      have b1 := c1
      have hs := hs'
      clear c0 c1 hs'
      go_wp2_with fail
      refine (HSZ.out _).mono ?_
      rintro e W2 ⟨rfl, hb⟩
      have HB2 := Lib.hid (HB1.out.trans (hb.mono HB1.out.size))
      have R2 := Lib.hid (R1.out.below hb)
      have c0 : W2.cell? ⟨w.heap.size, 0, none⟩ = some (.int .u32 a) := by rw [hb.cell (p := ⟨w.heap.size, 0, none⟩) hs]; exact b0
      have c1 : W2.cell? ⟨w.heap.size, 1, none⟩ = some (.int .i64 b) := by rw [hb.cell (p := ⟨w.heap.size, 1, none⟩) hs]; exact b1
      have hs' : w.heap.size < W2.heap.size := Nat.lt_of_lt_of_le hs hb.size
      clear hb b0 b1 hs
      have b0 := c0
      have b1 := c1
      have hs := hs'
      clear c0 c1 hs'
      go_wp2_with fail
      go_ret2
      exact out_no w W2 3 HB2.out
    · rw [hse] at HSZ
      have h256' : decide (256 < p2 b) = false := decide_eq_false h256
      have HAO := Lib.hid fun W (hR : Rw eW W A xs) => anyOverlap_any a b A xs cap W hR hu ha0 ha1
      cases hov : anyB xs a b
      · by_cases h16 : 16 ≤ xs.length
        · have HT := Lib.hid (show putR xs a b now = [] ∧ putC xs a b = 4 by
            have e : putC xs a b = 4 := by unfold putC; rw [if_neg (by rw [hok]; simp), if_neg h256, if_neg (by rw [hov]; simp), if_pos h16]
            exact ⟨by unfold putR; rw [e]; rfl, e⟩)
          rw [HT.out.1, HT.out.2]
          rw [hov] at HAO
          clear h HT hok HPL hse h256 hov
          generalize xs.length = L at *
          generalize lo xs a = P at *
          generalize p2 b = Z at *
          have h16' : (16 : Int) ≤ L := by omega
          go_enter Try.func17, Try.ntmps17
          go_wp2_with fail
          generalize w.alloc (.cells #[.int .u32 a, .int .i64 b] 36) = W0 at *
          refine (HRT.out _).mono ?_
          rintro e W1 ⟨rfl, hb⟩
          have HB1 := Lib.hid (HB0.out.trans (hb.mono HB0.out.size))
          have R1 := Lib.hid (R0.out.below hb)
          have c0 : W1.cell? ⟨w.heap.size, 0, none⟩ = some (.int .u32 a) := by rw [hb.cell (p := ⟨w.heap.size, 0, none⟩) hs]; exact b0
          have c1 : W1.cell? ⟨w.heap.size, 1, none⟩ = some (.int .i64 b) := by rw [hb.cell (p := ⟨w.heap.size, 1, none⟩) hs]; exact b1
          have hs' : w.heap.size < W1.heap.size := Nat.lt_of_lt_of_le hs hb.size
          clear hb b0 b1 hs
          have b0 := c0
          have b1 := c1
          have hs := hs'
          clear c0 c1 hs'
          go_wp2_with fail
          refine (HSZ.out _).mono ?_
          rintro e W2 ⟨rfl, hb⟩
          have HB2 := Lib.hid (HB1.out.trans (hb.mono HB1.out.size))
          have R2 := Lib.hid (R1.out.below hb)
          have c0 : W2.cell? ⟨w.heap.size, 0, none⟩ = some (.int .u32 a) := by rw [hb.cell (p := ⟨w.heap.size, 0, none⟩) hs]; exact b0
          have c1 : W2.cell? ⟨w.heap.size, 1, none⟩ = some (.int .i64 b) := by rw [hb.cell (p := ⟨w.heap.size, 1, none⟩) hs]; exact b1
          have hs' : w.heap.size < W2.heap.size := Nat.lt_of_lt_of_le hs hb.size
          clear hb b0 b1 hs
          have b0 := c0
          have b1 := c1
          have hs := hs'
          clear c0 c1 hs'
          go_wp2_with fail
          refine (HAO.out _ R2.out).mono ?_
          rintro e W3 ⟨rfl, hb⟩
          have HB3 := Lib.hid (HB2.out.trans (hb.mono HB2.out.size))
          have R3 := Lib.hid (R2.out.below hb)
          have c0 : W3.cell? ⟨w.heap.size, 0, none⟩ = some (.int .u32 a) := by rw [hb.cell (p := ⟨w.heap.size, 0, none⟩) hs]; exact b0
          have c1 : W3.cell? ⟨w.heap.size, 1, none⟩ = some (.int .i64 b) := by rw [hb.cell (p := ⟨w.heap.size, 1, none⟩) hs]; exact b1
          have hs' : w.heap.size < W3.heap.size := Nat.lt_of_lt_of_le hs hb.size
          clear hb b0 b1 hs
          have b0 := c0
          have b1 := c1
          have hs := hs'
          clear c0 c1 hs'
          go_wp2_with fail
          go_ret2
          exact out_no w W3 4 HB3.out
        · have HT := Lib.hid (show putR xs a b now = ins xs ⟨a, b, cl now, 0⟩ ∧ putC xs a b = 0 by
            have e : putC xs a b = 0 := by unfold putC; rw [if_neg (by rw [hok]; simp), if_neg h256, if_neg (by rw [hov]; simp), if_neg h16]
            exact ⟨by unfold putR; rw [if_pos e], e⟩)
          rw [HT.out.1, HT.out.2]
          rw [hov] at HAO
          obtain ⟨D, hD⟩ : ∃ D, cl now = D := ⟨_, rfl⟩
          have HCN := Lib.hid fun W => clamp_any now W
          rw [hD] at HCN ⊢
          clear hD
          obtain ⟨ys, hys⟩ : ∃ ys, ins xs ⟨a, b, D, 0⟩ = ys := ⟨_, rfl⟩
          obtain ⟨ps, hps⟩ : ∃ ps : Nat → List (Pt Sw), ps = fun g => [⟨A, xs.take (lo xs a), cap⟩, ⟨some ⟨g, 0, none⟩, [⟨a, b, D, 0⟩], 1⟩, ⟨dA 4 A cap (lo xs a), xs.drop (lo xs a), cap - lo xs a⟩] := ⟨_, rfl⟩
          have e1 : (xs.take (lo xs a)).length = lo xs a := by rw [List.length_take]; omega
          have e2 : (xs.drop (lo xs a)).length = xs.length - lo xs a := by rw [List.length_drop]
          have hcat : ∀ g, cat (ps g) (ps g).length = ys := fun g => by rw [← hys, hps]; simp [cat, ins]
          have hyl : ys.length ≤ 1000 := by rw [← hys]; unfold ins; rw [List.length_append, List.length_append, e1, e2, List.length_singleton]; omega
          have HPM := Lib.hid (show ∀ W, Below w.heap.size w W → ∀ g, Rw eW W (some ⟨g, 0, none⟩) [⟨a, b, D, 0⟩] → pG ps (.slice (some ⟨W.heap.size, 0, none⟩) 3 3) (W.alloc (.cells #[.slice A (lo xs a) cap, .slice (some ⟨g, 0, none⟩) 1 1, .slice (dA 4 A cap (lo xs a)) (xs.length - lo xs a) (cap - lo xs a)] 29)) from fun W hW g hg => by
            subst hps
            have hH := h.below hW
            have := pm_three W ⟨A, xs.take (lo xs a), cap⟩ ⟨some ⟨g, 0, none⟩, [⟨a, b, D, 0⟩], 1⟩ ⟨dA 4 A cap (lo xs a), xs.drop (lo xs a), cap - lo xs a⟩ 29 (hH.take _) hg (hH.rest hc _)
            dsimp only at this
            rw [e1, e2] at this
            exact ⟨g, _, rfl, this⟩)
          have HCC := Lib.hid (show ∀ W, Below w.heap.size w W → ∀ g b, Pm eW W b (ps g) → Calls Try.prog 30 #[.slice (some ⟨b, 0, none⟩) 3 3] W fun e w' => ∃ v, e = .returned v ∧ Below W.heap.size W w' ∧ oF w.heap.size ys v w' from fun W hW g b hb => by
            have := concat_any (ps g) b 3 W hb (by rw [hcat]; omega) (by rw [hps]; simp)
            rw [hcat, show (ps g).length = 3 by rw [hps]; rfl] at this
            refine this.mono ?_
            rintro e w' ⟨v, he, ho, hbb⟩
            exact ⟨v, he, hbb, own_base ho hW.size⟩)
          have HSH := Lib.hid (fun W => run_sl29 A xs.length cap (lo xs a) (by omega) W)
          have HSL := Lib.hid (fun W => run_sl29l A xs.length cap (lo xs a) hle hc W)
          have HLL := Lib.hid (show ∀ g, (ps g).length = 3 by intro g; rw [hps]; rfl)
          have HYL := Lib.hid hyl
          rw [hys]
          clear hps hcat hys hyl e1 e2 h HT hok hov hse h256
          generalize xs.length = L at *
          generalize lo xs a = P at *
          generalize p2 b = Z at *
          generalize isAt xs a b = TF at *
          have h16' : ¬ (16 : Int) ≤ L := by omega
          go_enter Try.func17, Try.ntmps17
          go_wp2_with fail
          generalize w.alloc (.cells #[.int .u32 a, .int .i64 b] 36) = W0 at *
          refine (HRT.out _).mono ?_
          rintro e W1 ⟨rfl, hb⟩
          have HB1 := Lib.hid (HB0.out.trans (hb.mono HB0.out.size))
          have R1 := Lib.hid (R0.out.below hb)
          have c0 : W1.cell? ⟨w.heap.size, 0, none⟩ = some (.int .u32 a) := by rw [hb.cell (p := ⟨w.heap.size, 0, none⟩) hs]; exact b0
          have c1 : W1.cell? ⟨w.heap.size, 1, none⟩ = some (.int .i64 b) := by rw [hb.cell (p := ⟨w.heap.size, 1, none⟩) hs]; exact b1
          have hs' : w.heap.size < W1.heap.size := Nat.lt_of_lt_of_le hs hb.size
          clear hb b0 b1 hs
          have b0 := c0
          have b1 := c1
          have hs := hs'
          clear c0 c1 hs'
          go_wp2_with fail
          refine (HSZ.out _).mono ?_
          rintro e W2 ⟨rfl, hb⟩
          have HB2 := Lib.hid (HB1.out.trans (hb.mono HB1.out.size))
          have R2 := Lib.hid (R1.out.below hb)
          have c0 : W2.cell? ⟨w.heap.size, 0, none⟩ = some (.int .u32 a) := by rw [hb.cell (p := ⟨w.heap.size, 0, none⟩) hs]; exact b0
          have c1 : W2.cell? ⟨w.heap.size, 1, none⟩ = some (.int .i64 b) := by rw [hb.cell (p := ⟨w.heap.size, 1, none⟩) hs]; exact b1
          have hs' : w.heap.size < W2.heap.size := Nat.lt_of_lt_of_le hs hb.size
          clear hb b0 b1 hs
          have b0 := c0
          have b1 := c1
          have hs := hs'
          clear c0 c1 hs'
          go_wp2_with fail
          refine (HAO.out _ R2.out).mono ?_
          rintro e W3 ⟨rfl, hb⟩
          have HB3 := Lib.hid (HB2.out.trans (hb.mono HB2.out.size))
          have R3 := Lib.hid (R2.out.below hb)
          have c0 : W3.cell? ⟨w.heap.size, 0, none⟩ = some (.int .u32 a) := by rw [hb.cell (p := ⟨w.heap.size, 0, none⟩) hs]; exact b0
          have c1 : W3.cell? ⟨w.heap.size, 1, none⟩ = some (.int .i64 b) := by rw [hb.cell (p := ⟨w.heap.size, 1, none⟩) hs]; exact b1
          have hs' : w.heap.size < W3.heap.size := Nat.lt_of_lt_of_le hs hb.size
          clear hb b0 b1 hs
          have b0 := c0
          have b1 := c1
          have hs := hs'
          clear c0 c1 hs'
          go_wp2_with fail
          refine (HPL.out _ R3.out).mono ?_
          rintro e W4 ⟨rfl, hb⟩
          have HB4 := Lib.hid (HB3.out.trans (hb.mono HB3.out.size))
          have R4 := Lib.hid (R3.out.below hb)
          have c0 : W4.cell? ⟨w.heap.size, 0, none⟩ = some (.int .u32 a) := by rw [hb.cell (p := ⟨w.heap.size, 0, none⟩) hs]; exact b0
          have c1 : W4.cell? ⟨w.heap.size, 1, none⟩ = some (.int .i64 b) := by rw [hb.cell (p := ⟨w.heap.size, 1, none⟩) hs]; exact b1
          have hs' : w.heap.size < W4.heap.size := Nat.lt_of_lt_of_le hs hb.size
          clear hb b0 b1 hs
          have b0 := c0
          have b1 := c1
          have hs := hs'
          clear c0 c1 hs'
          have k0 := b0
          have k1 := b1
          go_upto_region 10 with fail
          refine wp_region_below_end (by simp) [fx (.agg #[.int .u32 a, .int .i64 b]), fx (.int .i64 now), fx (.int .i64 D), fx (.agg #[.int .u32 a, .int .i64 b, .int .i64 D, .int .i64 0]), Nb W4.heap.size]
            (by kernel_rfl) (by kernel_rfl) (by kernel_rfl) (by kernel_rfl) ?_ ?_ ?_
          · simp only [List.mem_cons, List.not_mem_nil, or_false]
            rintro φ (rfl | rfl | rfl | rfl | rfl)
            all_goals first | exact stable_fx _ | exact stable_nb _
          · refine OgSteps.cons ?_ (OgSteps.cons ?_ (OgSteps.cons ?_ (OgSteps.cons ?_ (OgSteps.cons ?_ (OgSteps.nil)))))
            · refine OgStep.pure ?_ ?_
              · rfl
              intro u W hS hp
              have q0 : W.cell? ⟨w.heap.size, 0, none⟩ = some (.int .u32 a) := by rw [hS.cell (p := ⟨w.heap.size, 0, none⟩) hs]; exact k0
              have q1 : W.cell? ⟨w.heap.size, 1, none⟩ = some (.int .i64 b) := by rw [hS.cell (p := ⟨w.heap.size, 1, none⟩) hs]; exact k1
              refine ⟨.agg #[.int .u32 a, .int .i64 b], ?_, rfl⟩
              simp only [ogMk, Act.put, List.setIfInBounds_toArray, List.set_cons_zero, List.set_cons_succ, Nat.zero_add, Nat.reduceAdd, List.take_succ_cons, List.take_zero, List.drop_succ_cons, List.drop_zero]
              simp [execOp, Act.eval, go_sem, q0, q1]
            · refine OgStep.pure ?_ ?_
              · rfl
              intro u W hS hp
              refine ⟨.int .i64 now, ?_, rfl⟩
              simp only [ogMk, Act.put, List.setIfInBounds_toArray, List.set_cons_zero, List.set_cons_succ, Nat.zero_add, Nat.reduceAdd, List.take_succ_cons, List.take_zero, List.drop_succ_cons, List.drop_zero]
              simp [execOp, Act.eval, go_sem]
            · refine OgStep.calls ?_ ?_
              · rfl
              intro u W hS hp
              have h1 : u 1 = .int .i64 now := hp ⟨1, .data⟩ (by simp) rfl
              refine ⟨32, #[.int .i64 now], ?_, calls_fx ((HCN.out W).mono fun _ _ ⟨he, hw⟩ => ⟨he, by rw [hw]; exact Below.refl _ _⟩) rfl⟩
              simp only [ogMk, Act.put, List.setIfInBounds_toArray, List.set_cons_zero, List.set_cons_succ, Nat.zero_add, Nat.reduceAdd, List.take_succ_cons, List.take_zero, List.drop_succ_cons, List.drop_zero]
              simp [execOp, Act.eval, go_sem, h1]
            · refine OgStep.pure ?_ ?_
              · rfl
              intro u W hS hp
              have h0 : u 0 = .agg #[.int .u32 a, .int .i64 b] := hp ⟨0, .data⟩ (by simp) rfl
              have h2 : u 2 = .int .i64 D := hp ⟨2, .data⟩ (by simp) rfl
              refine ⟨.agg #[.int .u32 a, .int .i64 b, .int .i64 D, .int .i64 0], ?_, rfl⟩
              simp only [ogMk, Act.put, List.setIfInBounds_toArray, List.set_cons_zero, List.set_cons_succ, Nat.zero_add, Nat.reduceAdd, List.take_succ_cons, List.take_zero, List.drop_succ_cons, List.drop_zero]
              simp [execOp, Act.eval, go_sem, h0, h2]
            · refine OgStep.made ?_ ?_
              · rfl
              intro u W hS hp
              refine ⟨.pointer (some ⟨W.heap.size, 0, none⟩), _, ?_, (Below.refl _ W).alloc (Nat.le_refl _) _, show Nb W4.heap.size _ (W.alloc (Swx zw)) from ⟨W.heap.size, rfl, hS.size, by simp, wb_box W zw⟩⟩
              simp only [ogMk, Act.put, List.setIfInBounds_toArray, List.set_cons_zero, List.set_cons_succ, Nat.zero_add, Nat.reduceAdd, List.take_succ_cons, List.take_zero, List.drop_succ_cons, List.drop_zero]
              simp [execOp, Act.eval, go_sem, Swx, zw]
          · intro u W hS hF
            have hF' := hF
            have e0 : u 0 = .agg #[.int .u32 a, .int .i64 b] := hF 0 (by decide)
            have e1 : u 1 = .int .i64 now := hF 1 (by decide)
            have e2 : u 2 = .int .i64 D := hF 2 (by decide)
            have e3 : u 3 = .agg #[.int .u32 a, .int .i64 b, .int .i64 D, .int .i64 0] := hF 3 (by decide)
            simp only [ogMk, Act.put, List.setIfInBounds_toArray, List.set_cons_zero, List.set_cons_succ, Nat.zero_add, Nat.reduceAdd, List.take_succ_cons, List.take_zero, List.drop_succ_cons, List.drop_zero]
            rw [e0, e1, e2, e3]
            clear e0 e1 e2 e3 hF
            obtain ⟨g, e4, hg1, hg2, hg3⟩ : Nb W4.heap.size (u 4) W := hF' 4 (by decide)
            rw [e4]
            clear hF' e4
            have HBW := Lib.hid (HB4.out.trans (hS.mono HB4.out.size))
            have RW4 := Lib.hid (R4.out.below hS)
            have HG := Lib.hid hg3
            have hgw : w.heap.size ≤ g := by have := HB4.out.size; omega
            clear hS hg3 k0 k1
            go_wp2_with (refine at_store39 _ _ _ zw ⟨a, b, D, 0⟩ HG.out rfl rfl rfl rfl ?_; intro w5 P5 B5)
            have HB5 := Lib.hid (HBW.out.trans (B5.out _ hgw))
            clear HBW RW4 HG B5
            refine wp_region_below [fx (.slice A L cap), fx (.int .i64 (P : Int)), fx (.slice A P cap), fx (.agg #[.int .u32 a, .int .i64 b, .int .i64 D, .int .i64 0]), hF ⟨a, b, D, 0⟩, fx (.slice A L cap), fx (.int .i64 (P : Int)), fx (.slice (dA 4 A cap P) (L - P) (cap - P)), pG ps, oF w.heap.size ys, oF w.heap.size ys, fx (.int .i64 0)]
              (by kernel_rfl) (by kernel_rfl) (by kernel_rfl) ?_ ?_ ?_
            · simp only [List.mem_cons, List.not_mem_nil, or_false]
              rintro φ (rfl | rfl | rfl | rfl | rfl | rfl | rfl | rfl | rfl | rfl | rfl | rfl)
              all_goals first | exact stable_fx _ | exact stable_fr _ _ | exact stable_pG _ | exact stable_oF _ _ | exact stable_hF _
            · refine OgSteps.cons ?_ (OgSteps.cons ?_ (OgSteps.cons ?_ (OgSteps.cons ?_ (OgSteps.cons ?_ (OgSteps.cons ?_ (OgSteps.cons ?_ (OgSteps.cons ?_ (OgSteps.cons ?_ (OgSteps.cons ?_ (OgSteps.cons ?_ (OgSteps.cons ?_ (OgSteps.nil))))))))))))
              · refine OgStep.pure ?_ ?_
                · rfl
                intro u W hS hp
                refine ⟨.slice A L cap, ?_, rfl⟩
                simp only [ogMk, Act.put, List.setIfInBounds_toArray, List.set_cons_zero, List.set_cons_succ, Nat.zero_add, Nat.reduceAdd, List.take_succ_cons, List.take_zero, List.drop_succ_cons, List.drop_zero]
                simp [execOp, Act.eval, go_sem]
              · refine OgStep.pure ?_ ?_
                · rfl
                intro u W hS hp
                refine ⟨.int .i64 (P : Int), ?_, rfl⟩
                simp only [ogMk, Act.put, List.setIfInBounds_toArray, List.set_cons_zero, List.set_cons_succ, Nat.zero_add, Nat.reduceAdd, List.take_succ_cons, List.take_zero, List.drop_succ_cons, List.drop_zero]
                simp [execOp, Act.eval, go_sem]
              · refine OgStep.pure ?_ ?_
                · rfl
                intro u W hS hp
                have h0 : u 0 = .slice A L cap := hp ⟨0, .data⟩ (by simp) rfl
                have h1 : u 1 = .int .i64 (P : Int) := hp ⟨1, .data⟩ (by simp) rfl
                have R := HSH.out W
                refine ⟨.slice A P cap, ?_, rfl⟩
                simp only [ogMk, Act.put, List.setIfInBounds_toArray, List.set_cons_zero, List.set_cons_succ, Nat.zero_add, Nat.reduceAdd, List.take_succ_cons, List.take_zero, List.drop_succ_cons, List.drop_zero]
                simp [execOp, Act.eval, go_sem, h0, h1, R]
              · refine OgStep.pure ?_ ?_
                · rfl
                intro u W hS hp
                have K := (P5.out.below hS).key
                have K0 := K 0 _ rfl
                have K1 := K 1 _ rfl
                have K2 := K 2 _ rfl
                have K3 := K 3 _ rfl
                refine ⟨.agg #[.int .u32 a, .int .i64 b, .int .i64 D, .int .i64 0], ?_, rfl⟩
                simp only [ogMk, Act.put, List.setIfInBounds_toArray, List.set_cons_zero, List.set_cons_succ, Nat.zero_add, Nat.reduceAdd, List.take_succ_cons, List.take_zero, List.drop_succ_cons, List.drop_zero]
                simp [execOp, Act.eval, go_sem, K0, K1, K2, K3]
              · refine OgStep.made ?_ ?_
                · rfl
                intro u W hS hp
                have h3 : u 3 = .agg #[.int .u32 a, .int .i64 b, .int .i64 D, .int .i64 0] := hp ⟨3, .data⟩ (by simp) rfl
                refine ⟨.slice (some ⟨W.heap.size, 0, none⟩) 1 1, _, ?_, (Below.refl _ W).alloc (Nat.le_refl _) _, ⟨_, rfl, hs_box W ⟨a, b, D, 0⟩⟩⟩
                simp only [ogMk, Act.put, List.setIfInBounds_toArray, List.set_cons_zero, List.set_cons_succ, Nat.zero_add, Nat.reduceAdd, List.take_succ_cons, List.take_zero, List.drop_succ_cons, List.drop_zero]
                simp [execOp, Act.eval, go_sem, h3, Swx]
              · refine OgStep.pure ?_ ?_
                · rfl
                intro u W hS hp
                refine ⟨.slice A L cap, ?_, rfl⟩
                simp only [ogMk, Act.put, List.setIfInBounds_toArray, List.set_cons_zero, List.set_cons_succ, Nat.zero_add, Nat.reduceAdd, List.take_succ_cons, List.take_zero, List.drop_succ_cons, List.drop_zero]
                simp [execOp, Act.eval, go_sem]
              · refine OgStep.pure ?_ ?_
                · rfl
                intro u W hS hp
                refine ⟨.int .i64 (P : Int), ?_, rfl⟩
                simp only [ogMk, Act.put, List.setIfInBounds_toArray, List.set_cons_zero, List.set_cons_succ, Nat.zero_add, Nat.reduceAdd, List.take_succ_cons, List.take_zero, List.drop_succ_cons, List.drop_zero]
                simp [execOp, Act.eval, go_sem]
              · refine OgStep.pure ?_ ?_
                · rfl
                intro u W hS hp
                have h5 : u 5 = .slice A L cap := hp ⟨5, .data⟩ (by simp) rfl
                have h6 : u 6 = .int .i64 (P : Int) := hp ⟨6, .data⟩ (by simp) rfl
                have R := HSL.out W
                refine ⟨.slice (dA 4 A cap P) (L - P) (cap - P), ?_, rfl⟩
                simp only [ogMk, Act.put, List.setIfInBounds_toArray, List.set_cons_zero, List.set_cons_succ, Nat.zero_add, Nat.reduceAdd, List.take_succ_cons, List.take_zero, List.drop_succ_cons, List.drop_zero]
                simp [execOp, Act.eval, go_sem, h5, h6, R]
              · refine OgStep.made ?_ ?_
                · rfl
                intro u W hS hp
                obtain ⟨b4, h4, hH4⟩ : hF ⟨a, b, D, 0⟩ (u 4) W := hp ⟨4, .data⟩ (by simp) rfl
                have h2 : u 2 = .slice A P cap := hp ⟨2, .data⟩ (by simp) rfl
                have h7 : u 7 = .slice (dA 4 A cap P) (L - P) (cap - P) := hp ⟨7, .data⟩ (by simp) rfl
                refine ⟨.slice (some ⟨W.heap.size, 0, none⟩) 3 3, _, ?_, (Below.refl _ W).alloc (Nat.le_refl _) _, HPM.out W (HB5.out.trans (hS.mono HB5.out.size)) b4 hH4⟩
                simp only [ogMk, Act.put, List.setIfInBounds_toArray, List.set_cons_zero, List.set_cons_succ, Nat.zero_add, Nat.reduceAdd, List.take_succ_cons, List.take_zero, List.drop_succ_cons, List.drop_zero]
                rw [h2, h4, h7]
                simp [execOp, Act.eval, go_sem]
              · refine OgStep.calls ?_ ?_
                · rfl
                intro u W hS hp
                obtain ⟨b4, b8, h8, hPm⟩ : pG ps (u 8) W := hp ⟨8, .data⟩ (by simp) rfl
                refine ⟨30, #[.slice (some ⟨b8, 0, none⟩) 3 3], ?_, HCC.out W (HB5.out.trans (hS.mono HB5.out.size)) b4 b8 hPm⟩
                simp only [ogMk, Act.put, List.setIfInBounds_toArray, List.set_cons_zero, List.set_cons_succ, Nat.zero_add, Nat.reduceAdd, List.take_succ_cons, List.take_zero, List.drop_succ_cons, List.drop_zero]
                rw [h8, HLL.out b4]
                simp [execOp, Act.eval, go_sem]
              · refine OgStep.pure ?_ ?_
                · rfl
                intro u W hS hp
                have h9 : oF w.heap.size ys (u 9) W := hp ⟨9, .data⟩ (by simp) rfl
                refine ⟨u 9, ?_, h9⟩
                simp only [ogMk, Act.put, List.setIfInBounds_toArray, List.set_cons_zero, List.set_cons_succ, Nat.zero_add, Nat.reduceAdd, List.take_succ_cons, List.take_zero, List.drop_succ_cons, List.drop_zero]
                simp [execOp, Act.eval, go_sem]
              · refine OgStep.pure ?_ ?_
                · rfl
                intro u W hS hp
                refine ⟨.int .i64 0, ?_, rfl⟩
                simp only [ogMk, Act.put, List.setIfInBounds_toArray, List.set_cons_zero, List.set_cons_succ, Nat.zero_add, Nat.reduceAdd, List.take_succ_cons, List.take_zero, List.drop_succ_cons, List.drop_zero]
                simp [execOp, Act.eval, go_sem]
            · intro u W hS hF'
              have hF10 : oF w.heap.size ys (u 10) W := hF' 10 (by decide)
              have hF := hF'
              have e0 : u 0 = .slice A L cap := hF 0 (by decide)
              have e1 : u 1 = .int .i64 (P : Int) := hF 1 (by decide)
              have e2 : u 2 = .slice A P cap := hF 2 (by decide)
              have e3 : u 3 = .agg #[.int .u32 a, .int .i64 b, .int .i64 D, .int .i64 0] := hF 3 (by decide)
              have e5 : u 5 = .slice A L cap := hF 5 (by decide)
              have e6 : u 6 = .int .i64 (P : Int) := hF 6 (by decide)
              have e7 : u 7 = .slice (dA 4 A cap P) (L - P) (cap - P) := hF 7 (by decide)
              have e11 : u 11 = .int .i64 0 := hF 11 (by decide)
              simp only [ogMk, Act.put, List.setIfInBounds_toArray, List.set_cons_zero, List.set_cons_succ, Nat.zero_add, Nat.reduceAdd, List.take_succ_cons, List.take_zero, List.drop_succ_cons, List.drop_zero]
              rw [e0, e1, e2, e3, e5, e6, e7, e11]
              clear hF' e0 e1 e2 e3 e5 e6 e7 e11 hF
              go_wp2_with fail
              go_ret2
              exact out_yes (hF10 : W.ownsRow w.heap.size 39 4 (u 10) ys.length (eW.cs ys)) HYL.out (HB5.out.trans (hS.mono HB5.out.size))
      · have HT := Lib.hid (show putR xs a b now = [] ∧ putC xs a b = 5 by
          have e : putC xs a b = 5 := by unfold putC; rw [if_neg (by rw [hok]; simp), if_neg h256, if_pos hov]
          exact ⟨by unfold putR; rw [e]; rfl, e⟩)
        rw [HT.out.1, HT.out.2]
        rw [hov] at HAO
        clear h HT hok HPL hse h256 hov
        generalize xs.length = L at *
        generalize lo xs a = P at *
        generalize p2 b = Z at *
        go_enter Try.func17, Try.ntmps17
        go_wp2_with fail
        generalize w.alloc (.cells #[.int .u32 a, .int .i64 b] 36) = W0 at *
        refine (HRT.out _).mono ?_
        rintro e W1 ⟨rfl, hb⟩
        have HB1 := Lib.hid (HB0.out.trans (hb.mono HB0.out.size))
        have R1 := Lib.hid (R0.out.below hb)
        have c0 : W1.cell? ⟨w.heap.size, 0, none⟩ = some (.int .u32 a) := by rw [hb.cell (p := ⟨w.heap.size, 0, none⟩) hs]; exact b0
        have c1 : W1.cell? ⟨w.heap.size, 1, none⟩ = some (.int .i64 b) := by rw [hb.cell (p := ⟨w.heap.size, 1, none⟩) hs]; exact b1
        have hs' : w.heap.size < W1.heap.size := Nat.lt_of_lt_of_le hs hb.size
        clear hb b0 b1 hs
        have b0 := c0
        have b1 := c1
        have hs := hs'
        clear c0 c1 hs'
        go_wp2_with fail
        refine (HSZ.out _).mono ?_
        rintro e W2 ⟨rfl, hb⟩
        have HB2 := Lib.hid (HB1.out.trans (hb.mono HB1.out.size))
        have R2 := Lib.hid (R1.out.below hb)
        have c0 : W2.cell? ⟨w.heap.size, 0, none⟩ = some (.int .u32 a) := by rw [hb.cell (p := ⟨w.heap.size, 0, none⟩) hs]; exact b0
        have c1 : W2.cell? ⟨w.heap.size, 1, none⟩ = some (.int .i64 b) := by rw [hb.cell (p := ⟨w.heap.size, 1, none⟩) hs]; exact b1
        have hs' : w.heap.size < W2.heap.size := Nat.lt_of_lt_of_le hs hb.size
        clear hb b0 b1 hs
        have b0 := c0
        have b1 := c1
        have hs := hs'
        clear c0 c1 hs'
        go_wp2_with fail
        refine (HAO.out _ R2.out).mono ?_
        rintro e W3 ⟨rfl, hb⟩
        have HB3 := Lib.hid (HB2.out.trans (hb.mono HB2.out.size))
        have R3 := Lib.hid (R2.out.below hb)
        have c0 : W3.cell? ⟨w.heap.size, 0, none⟩ = some (.int .u32 a) := by rw [hb.cell (p := ⟨w.heap.size, 0, none⟩) hs]; exact b0
        have c1 : W3.cell? ⟨w.heap.size, 1, none⟩ = some (.int .i64 b) := by rw [hb.cell (p := ⟨w.heap.size, 1, none⟩) hs]; exact b1
        have hs' : w.heap.size < W3.heap.size := Nat.lt_of_lt_of_le hs hb.size
        clear hb b0 b1 hs
        have b0 := c0
        have b1 := c1
        have hs := hs'
        clear c0 c1 hs'
        go_wp2_with fail
        go_ret2
        exact out_no w W3 5 HB3.out
end Go.Proofs.Ytenolbgadlehpaa
