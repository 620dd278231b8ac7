/-
  The contract of cases.Raise. Conditions: the row lies in memory, and has up to 900 cases.
-/
import Derived.BigGuard
import Derived.Test.YtmaaniokfpkbjaaStp
import Derived.Test.YtmaaniokfpkbjaaSpr
set_option linter.unusedSimpArgs false
set_option linter.unusedVariables false
namespace Go.Proofs.Ytmaaniokfpkbjaa
open Go.RowKit

/-- The parts, in a row of their own. -/
def pF (ps : List (Pt Ca)) : Value → World → Prop := fun v W => ∃ b, v = .slice (some ⟨b, 0, none⟩) ps.length ps.length ∧ Pm eA W b ps
theorem Pm.below {w w' : World} {b : Nat} {ps : List (Pt Ca)} (h : Pm eA w b ps) (hb : Below w.heap.size w w') : Pm eA w' b ps :=
  ⟨Nat.lt_of_lt_of_le h.1 hb.size, fun k p hp => ⟨by rw [hb.cell (p := ⟨b, k, none⟩) h.1]; exact (h.2 k p hp).1, (h.2 k p hp).2.below hb⟩⟩
theorem stable_pF (ps : List (Pt Ca)) : Stable (pF ps) := fun _ _ _ ⟨b, hv, hP⟩ hb => ⟨b, hv, hP.below hb⟩
/-- A row of the call's own. -/
def oF (B : Nat) (ys : List Ca) : Value → World → Prop := fun v W => W.ownsRow B 37 4 v ys.length (eA.cs ys)
theorem stable_oF (B : Nat) (ys : List Ca) : Stable (oF B ys) := fun _ _ _ h hb => own_keep h hb
/-- A row of one. -/
def hF (h : Ca) : Value → World → Prop := fun v W => ∃ b, v = .slice (some ⟨b, 0, none⟩) 1 1 ∧ Rw eA W (some ⟨b, 0, none⟩) [h]
theorem stable_hF (h : Ca) : Stable (hF h) := fun _ _ _ ⟨b, hv, hP⟩ hb => ⟨b, hv, hP.below hb⟩
theorem pm_two (W : World) (p q : Pt Ca) (t : TypeId) (hp : Rw eA W p.A p.xs) (hq : Rw eA W q.A q.xs) : Pm eA (W.alloc (.cells #[.slice p.A p.xs.length p.c, .slice q.A q.xs.length q.c] t)) W.heap.size [p, q] := by
  refine ⟨by simp, fun k r hr => ?_⟩
  match k, hr with
  | 0, hr => simp at hr; subst hr; exact ⟨by simp, hp.below ((Below.refl _ _).alloc (Nat.le_refl _) _)⟩
  | 1, hr => simp at hr; subst hr; exact ⟨by simp, hq.below ((Below.refl _ _).alloc (Nat.le_refl _) _)⟩
  | k + 2, hr => simp at hr
theorem pm_three (W : World) (p q s : Pt Ca) (t : TypeId) (hp : Rw eA W p.A p.xs) (hq : Rw eA W q.A q.xs) (hs : Rw eA W s.A s.xs) : Pm eA (W.alloc (.cells #[.slice p.A p.xs.length p.c, .slice q.A q.xs.length q.c, .slice s.A s.xs.length s.c] t)) W.heap.size [p, q, s] := by
  refine ⟨by simp, fun k r hr => ?_⟩
  match k, hr with
  | 0, hr => simp at hr; subst hr; exact ⟨by simp, hp.below ((Below.refl _ _).alloc (Nat.le_refl _) _)⟩
  | 1, hr => simp at hr; subst hr; exact ⟨by simp, hq.below ((Below.refl _ _).alloc (Nat.le_refl _) _)⟩
  | 2, hr => simp at hr; subst hr; exact ⟨by simp, hs.below ((Below.refl _ _).alloc (Nat.le_refl _) _)⟩
  | k + 3, hr => simp at hr
theorem hs_box (W : World) (x : Ca) : Rw eA (W.alloc (Cax x)) (some ⟨W.heap.size, 0, none⟩) [x] := by
  refine ⟨by simp, fun q z hq => ?_⟩
  match q, hq with
  | 0, hq =>
    simp at hq
    subst hq
    refine ⟨_, rfl, fun j v hv => ?_⟩
    rw [Addr.add_mid]
    have hv' : (cal x)[j]? = some v := hv
    have := (qb_box W x).1 j v hv'
    simpa [eA] using this
  | q + 1, hq => simp at hq

/-- A case that is raised. -/
def nw (a now : Int) : Ca := ⟨a, cl now, 0, 0⟩
/-- The row without a case. -/
def del (xs : List Ca) (k : Nat) : List Ca := xs.take k ++ xs.drop (k + 1)
/-- What becomes of a list where a case is raised. -/
def rs2 (xs : List Ca) (x : Ca) : Option Nat → List Ca × Int
  | none => ([], 4)
  | some i => (del xs i ++ [x], 0)
def rs1 (q now a : Int) (xs : List Ca) : Option Nat → List Ca × Int
  | some _ => ([], 6)
  | none => if aqB q a now xs = true then ([], 8) else if xs.length < 16 then (xs ++ [nw a now], 0) else rs2 xs (nw a now) (spO q now xs)
def rsO (q now a : Int) (xs : List Ca) : List Ca × Int := rs1 q now a xs (fnd a xs)

set_option maxRecDepth 100000 in
set_option maxHeartbeats 8000000 in
theorem raise_any (c : Cf) (now a : Int) (A : Option Addr) (xs : List Ca) (cap : Nat) (w : World) (h : Rw eA w A xs) (hc : xs.length ≤ cap) (hx9 : xs.length ≤ 900) :
    Calls Try.prog 23 #[cfv c, .slice A xs.length cap, .int .u32 a, .int .i64 now] w (OutPost w (rsO c.i now a xs).1 (rsO c.i now a xs).2) := by
  have hln := h.1
  have HB0 := Lib.hid (show Below w.heap.size w (w.alloc (Cfx c)) from (Below.refl _ w).alloc (Nat.le_refl _) _)
  have C0 := Lib.hid (cm_box w c)
  have R0 := Lib.hid (h.below HB0.out)
  have HFI := Lib.hid (find_any a A xs cap (w.alloc (Cfx c)) R0.out)
  have HAQ := Lib.hid fun W hR => anyQuiet_any c a now A xs cap W hR
  have HSP := Lib.hid fun W hR => spare_any c now A xs cap W hR hc
  have HC := Lib.hid fun W => clamp_any now W
  have HSA := Lib.hid fun p (hp : spO c.i now xs = some p) => spk_at hp
  have HRS := Lib.hid (show rsO c.i now a xs = rs1 c.i now a xs (fnd a xs) from rfl)
  have HR1 := Lib.hid (show rs1 c.i now a xs none = if aqB c.i a now xs = true then ([], 8) else if xs.length < 16 then (xs ++ [nw a now], 0) else rs2 xs (nw a now) (spO c.i now xs) from rfl)
  unfold cfv Cfx at *
  cases hB : fnd a xs with
  | some i =>
    have HT := Lib.hid (show rsO c.i now a xs = ([], 6) by rw [HRS.out, hB]; rfl)
    rw [HT.out]
    rw [hB] at HFI
    dsimp only [fnI] at HFI
    have hi0 : (0 : Int) ≤ i := by omega
    clear hB h HRS HR1 HSA HSP HAQ HT R0
    generalize xs.length = L at *
    go_enter Try.func23, Try.ntmps23
    go_wp2_with fail
    generalize w.alloc (.cells #[.int .i64 c.a, .int .i64 c.b, .int .i64 c.c, .int .i64 c.d, .int .i64 c.e, .int .i64 c.f, .int .i64 c.g, .int .i64 c.h, .int .i64 c.i] 27) = W0 at *
    refine HFI.out.mono ?_
    rintro e w1 ⟨rfl, hb⟩
    have B1 := Lib.hid (HB0.out.trans (hb.mono HB0.out.size))
    clear hb
    go_wp2_with fail
    go_ret2
    exact out_no w w1 6 B1.out
  | none =>
    rw [hB] at HFI HRS
    rw [HR1.out] at HRS
    dsimp only [fnI] at HFI
    clear hB HR1
    obtain ⟨aq, haq⟩ : ∃ b, aqB c.i a now xs = b := ⟨_, rfl⟩
    rw [haq] at HAQ HRS
    clear haq
    generalize rsO c.i now a xs = s at *
    cases aq
    · rw [if_neg (by simp)] at HRS
      by_cases h16 : xs.length < 16
      · have h16' : (xs.length : Int) < 16 := by omega
        rw [if_pos h16] at HRS
        obtain ⟨ys, hys⟩ : ∃ ys, xs ++ [nw a now] = ys := ⟨_, rfl⟩
        have HT := Lib.hid (show s = (ys, 0) by rw [HRS.out, hys])
        rw [HT.out]
        have hyl : ys.length ≤ 1000 := by rw [← hys, List.length_append]; simp; omega
        have HYL := Lib.hid hyl
        have HCC := Lib.hid (show ∀ W g, Rw eA W A xs → Rw eA W (some ⟨g, 0, none⟩) [nw a now] → Calls Try.prog 35 #[.slice (some ⟨W.heap.size, 0, none⟩) 2 2] (W.alloc (.cells #[.slice A xs.length cap, .slice (some ⟨g, 0, none⟩) 1 1] 29)) (OwnPost eA 37 (W.alloc (.cells #[.slice A xs.length cap, .slice (some ⟨g, 0, none⟩) 1 1] 29)) ys) from fun W g hA hX => by
          have hp := pm_two W ⟨A, xs, cap⟩ ⟨some ⟨g, 0, none⟩, [nw a now], 1⟩ 29 hA hX
          have := concat_any [⟨A, xs, cap⟩, ⟨some ⟨g, 0, none⟩, [nw a now], 1⟩] W.heap.size 2 _ hp (by simp [cat]; omega) (by simp)
          rw [show cat [(⟨A, xs, cap⟩ : Pt Ca), ⟨some ⟨g, 0, none⟩, [nw a now], 1⟩] [(⟨A, xs, cap⟩ : Pt Ca), ⟨some ⟨g, 0, none⟩, [nw a now], 1⟩].length = ys by rw [← hys]; simp [cat]] at this
          exact this)
        clear h HT HRS hyl hys h16 HSA HSP
        generalize xs.length = L at *
        go_enter Try.func23, Try.ntmps23
        go_wp2_with fail
        generalize w.alloc (.cells #[.int .i64 c.a, .int .i64 c.b, .int .i64 c.c, .int .i64 c.d, .int .i64 c.e, .int .i64 c.f, .int .i64 c.g, .int .i64 c.h, .int .i64 c.i] 27) = W0 at *
        refine HFI.out.mono ?_
        rintro e w1 ⟨rfl, hb⟩
        have B1 := Lib.hid (HB0.out.trans (hb.mono HB0.out.size))
        have R1 := Lib.hid (R0.out.below hb)
        have C1 := Lib.hid (C0.out.below hb)
        clear hb R0 C0
        go_wp2_with (refine at_load27 (.tmp 4) rfl rfl _ c rfl C1.out.at ?_)
        refine (HAQ.out _ R1.out).mono ?_
        rintro e w2 ⟨rfl, hb⟩
        have B2 := Lib.hid (B1.out.trans (hb.mono B1.out.size))
        have R2 := Lib.hid (R1.out.below hb)
        clear hb R1 C1
        have B3 := Lib.hid (show Below w.heap.size w (w2.alloc (.cells #[.int .u32 a, .int .i64 (cl now), .int .i64 0, .int .i64 0] 37)) from B2.out.alloc B2.out.size _)
        have R3 := Lib.hid (show Rw eA (w2.alloc (.cells #[.int .u32 a, .int .i64 (cl now), .int .i64 0, .int .i64 0] 37)) A xs from R2.out.below ((Below.refl _ w2).alloc (Nat.le_refl _) _))
        have RX3 := Lib.hid (show Rw eA (w2.alloc (.cells #[.int .u32 a, .int .i64 (cl now), .int .i64 0, .int .i64 0] 37)) (some ⟨w2.heap.size, 0, none⟩) [nw a now] from hs_box w2 (nw a now))
        have HC3 := Lib.hid (HCC.out _ _ R3.out RX3.out)
        have B4 := Lib.hid (show Below w.heap.size w ((w2.alloc (.cells #[.int .u32 a, .int .i64 (cl now), .int .i64 0, .int .i64 0] 37)).alloc (.cells #[.slice A L cap, .slice (some ⟨w2.heap.size, 0, none⟩) 1 1] 29)) from B3.out.alloc B3.out.size _)
        rw [World.size_alloc] at HC3
        go_wp2_with fail
        refine (HC.out _).mono ?_
        rintro e w5 ⟨rfl, rfl⟩
        go_wp2_with fail
        refine HC3.out.mono ?_
        rintro e w6 ⟨v, rfl, ho, hb⟩
        have B6 := Lib.hid (B4.out.trans (hb.mono B4.out.size))
        have O6 := Lib.hid ho
        clear hb ho
        go_wp2_with fail
        go_ret2
        exact out_yes O6.out HYL.out B6.out
      · have h16' : decide ((xs.length : Int) < 16) = false := decide_eq_false (by omega)
        rw [if_neg h16] at HRS
        cases hsp : spO c.i now xs with
        | none =>
          rw [hsp] at HRS HSP
          have HT := Lib.hid (show s = ([], 4) by rw [HRS.out]; rfl)
          rw [HT.out]
          dsimp only [fnI] at HSP
          clear h HT HRS h16 HSA hsp
          generalize xs.length = L at *
          go_enter Try.func23, Try.ntmps23
          go_wp2_with fail
          generalize w.alloc (.cells #[.int .i64 c.a, .int .i64 c.b, .int .i64 c.c, .int .i64 c.d, .int .i64 c.e, .int .i64 c.f, .int .i64 c.g, .int .i64 c.h, .int .i64 c.i] 27) = W0 at *
          refine HFI.out.mono ?_
          rintro e w1 ⟨rfl, hb⟩
          have B1 := Lib.hid (HB0.out.trans (hb.mono HB0.out.size))
          have R1 := Lib.hid (R0.out.below hb)
          have C1 := Lib.hid (C0.out.below hb)
          clear hb R0 C0
          go_wp2_with (refine at_load27 (.tmp 4) rfl rfl _ c rfl C1.out.at ?_)
          refine (HAQ.out _ R1.out).mono ?_
          rintro e w2 ⟨rfl, hb⟩
          have B2 := Lib.hid (B1.out.trans (hb.mono B1.out.size))
          have R2 := Lib.hid (R1.out.below hb)
          have C2 := Lib.hid (C1.out.below hb)
          clear hb R1 C1
          have B3 := Lib.hid (show Below w.heap.size w (w2.alloc (.cells #[.int .u32 a, .int .i64 (cl now), .int .i64 0, .int .i64 0] 37)) from B2.out.alloc B2.out.size _)
          have R3 := Lib.hid (show Rw eA (w2.alloc (.cells #[.int .u32 a, .int .i64 (cl now), .int .i64 0, .int .i64 0] 37)) A xs from R2.out.below ((Below.refl _ w2).alloc (Nat.le_refl _) _))
          have C3 := Lib.hid (show Cm (w2.alloc (.cells #[.int .u32 a, .int .i64 (cl now), .int .i64 0, .int .i64 0] 37)) w.heap.size c from C2.out.below ((Below.refl _ w2).alloc (Nat.le_refl _) _))
          have RX3 := Lib.hid (show Rw eA (w2.alloc (.cells #[.int .u32 a, .int .i64 (cl now), .int .i64 0, .int .i64 0] 37)) (some ⟨w2.heap.size, 0, none⟩) [nw a now] from hs_box w2 (nw a now))
          have RXL := Lib.hid (show w2.heap.size < (w2.alloc (.cells #[.int .u32 a, .int .i64 (cl now), .int .i64 0, .int .i64 0] 37)).heap.size by simp)
          go_wp2_with fail
          refine (HC.out _).mono ?_
          rintro e w5 ⟨rfl, rfl⟩
          go_upto_region 8 with fail
          generalize w2.alloc (.cells #[.int .u32 a, .int .i64 (cl now), .int .i64 0, .int .i64 0] 37) = W3 at *
          go_wp2_with (refine at_load27 (.tmp 4) rfl rfl _ c rfl C3.out.at ?_)
          refine (HSP.out _ R3.out).mono ?_
          rintro e w6 ⟨rfl, hb⟩
          have B6 := Lib.hid (B3.out.trans (hb.mono B3.out.size))
          clear hb
          go_wp2_with fail
          go_ret2
          exact out_no w w6 4 B6.out
        | some P =>
          obtain ⟨z, hz, hlt, -, -⟩ := HSA.out P hsp
          rw [hsp] at HRS HSP
          dsimp only [fnI] at HSP
          obtain ⟨y, rfl⟩ := rw_some h (by omega)
          obtain ⟨ys, hys⟩ : ∃ ys, del xs P ++ [nw a now] = ys := ⟨_, rfl⟩
          have HT := Lib.hid (show s = (ys, 0) by rw [HRS.out, ← hys]; rfl)
          rw [HT.out]
          have e1 : (xs.take P).length = P := by rw [List.length_take]; omega
          have e2 : (xs.drop (P + 1)).length = xs.length - (P + 1) := by rw [List.length_drop]
          have hyl : ys.length ≤ 1000 := by rw [← hys]; unfold del; rw [List.length_append, List.length_append, e1, e2]; simp; omega
          have HYL := Lib.hid hyl
          have HPM := Lib.hid (show ∀ g W, Rw eA W (some y) xs → Rw eA W (some ⟨g, 0, none⟩) [nw a now] → pF [⟨some y, xs.take P, cap⟩, ⟨dA 4 (some y) cap (P + 1), xs.drop (P + 1), cap - (P + 1)⟩, ⟨some ⟨g, 0, none⟩, [nw a now], 1⟩] (.slice (some ⟨W.heap.size, 0, none⟩) 3 3) (W.alloc (.cells #[.slice (some y) P cap, .slice (dA 4 (some y) cap (P + 1)) (xs.length - (P + 1)) (cap - (P + 1)), .slice (some ⟨g, 0, none⟩) 1 1] 29)) from fun g W hH hX => by
            have := pm_three W ⟨some y, xs.take P, cap⟩ ⟨dA 4 (some y) cap (P + 1), xs.drop (P + 1), cap - (P + 1)⟩ ⟨some ⟨g, 0, none⟩, [nw a now], 1⟩ 29 (hH.take _) (hH.rest hc _) hX
            dsimp only at this
            rw [e1, e2] at this
            exact ⟨_, rfl, this⟩)
          have HCC := Lib.hid (show ∀ g W, Below w.heap.size w W → ∀ b, Pm eA W b [⟨some y, xs.take P, cap⟩, ⟨dA 4 (some y) cap (P + 1), xs.drop (P + 1), cap - (P + 1)⟩, ⟨some ⟨g, 0, none⟩, [nw a now], 1⟩] → Calls Try.prog 35 #[.slice (some ⟨b, 0, none⟩) 3 3] W fun e w' => ∃ v, e = .returned v ∧ Below W.heap.size W w' ∧ oF w.heap.size ys v w' from fun g W hW b hb => by
            have hcat : cat [(⟨some y, xs.take P, cap⟩ : Pt Ca), ⟨dA 4 (some y) cap (P + 1), xs.drop (P + 1), cap - (P + 1)⟩, ⟨some ⟨g, 0, none⟩, [nw a now], 1⟩] 3 = ys := by rw [← hys]; simp [cat, del]
            have := concat_any [(⟨some y, xs.take P, cap⟩ : Pt Ca), ⟨dA 4 (some y) cap (P + 1), xs.drop (P + 1), cap - (P + 1)⟩, ⟨some ⟨g, 0, none⟩, [nw a now], 1⟩] b 3 W hb (by simp only [List.length_cons, List.length_nil, Nat.zero_add, Nat.reduceAdd]; rw [hcat]; omega) (by simp)
            simp only [List.length_cons, List.length_nil, Nat.zero_add, Nat.reduceAdd] at this
            rw [hcat] at this
            refine this.mono ?_
            rintro e w' ⟨v, he, ho, hbb⟩
            exact ⟨v, he, hbb, own_base ho hW.size⟩)
          have HSH := Lib.hid (fun W => run_sl29 (some y) xs.length cap P (by omega) W)
          have HSL := Lib.hid (fun W => run_sl29l (some y) xs.length cap (P + 1) (by omega) hc W)
          have HW := Lib.hid (show IntKind.i64.wrap ((P : Int) + 1) = (P : Int) + 1 by rw [IntKind.wrap_i64]; omega)
          clear hys hyl e1 e2 h HT HRS hsp HSA hz h16
          generalize hLL : xs.length = L at *
          clear hLL
          go_enter Try.func23, Try.ntmps23
          go_wp2_with fail
          generalize w.alloc (.cells #[.int .i64 c.a, .int .i64 c.b, .int .i64 c.c, .int .i64 c.d, .int .i64 c.e, .int .i64 c.f, .int .i64 c.g, .int .i64 c.h, .int .i64 c.i] 27) = W0 at *
          refine HFI.out.mono ?_
          rintro e w1 ⟨rfl, hb⟩
          have B1 := Lib.hid (HB0.out.trans (hb.mono HB0.out.size))
          have R1 := Lib.hid (R0.out.below hb)
          have C1 := Lib.hid (C0.out.below hb)
          clear hb R0 C0
          go_wp2_with (refine at_load27 (.tmp 4) rfl rfl _ c rfl C1.out.at ?_)
          refine (HAQ.out _ R1.out).mono ?_
          rintro e w2 ⟨rfl, hb⟩
          have B2 := Lib.hid (B1.out.trans (hb.mono B1.out.size))
          have R2 := Lib.hid (R1.out.below hb)
          have C2 := Lib.hid (C1.out.below hb)
          clear hb R1 C1
          have B3 := Lib.hid (show Below w.heap.size w (w2.alloc (.cells #[.int .u32 a, .int .i64 (cl now), .int .i64 0, .int .i64 0] 37)) from B2.out.alloc B2.out.size _)
          have R3 := Lib.hid (show Rw eA (w2.alloc (.cells #[.int .u32 a, .int .i64 (cl now), .int .i64 0, .int .i64 0] 37)) (some y) xs from R2.out.below ((Below.refl _ w2).alloc (Nat.le_refl _) _))
          have C3 := Lib.hid (show Cm (w2.alloc (.cells #[.int .u32 a, .int .i64 (cl now), .int .i64 0, .int .i64 0] 37)) w.heap.size c from C2.out.below ((Below.refl _ w2).alloc (Nat.le_refl _) _))
          have RX3 := Lib.hid (show Rw eA (w2.alloc (.cells #[.int .u32 a, .int .i64 (cl now), .int .i64 0, .int .i64 0] 37)) (some ⟨w2.heap.size, 0, none⟩) [nw a now] from hs_box w2 (nw a now))
          have RXL := Lib.hid (show w2.heap.size < (w2.alloc (.cells #[.int .u32 a, .int .i64 (cl now), .int .i64 0, .int .i64 0] 37)).heap.size by simp)
          go_wp2_with fail
          refine (HC.out _).mono ?_
          rintro e w5 ⟨rfl, rfl⟩
          go_upto_region 8 with fail
          generalize w2.alloc (.cells #[.int .u32 a, .int .i64 (cl now), .int .i64 0, .int .i64 0] 37) = W3 at *
          have hg3 : w2.heap.size < W3.heap.size := RXL.out
          go_wp2_with (refine at_load27 (.tmp 4) rfl rfl _ c rfl C3.out.at ?_)
          refine (HSP.out _ R3.out).mono ?_
          rintro e w6 ⟨rfl, hb⟩
          have HB6 := Lib.hid (B3.out.trans (hb.mono B3.out.size))
          have R6 := Lib.hid (R3.out.below hb)
          have RX6 := Lib.hid (RX3.out.below hb)
          clear hb R3 RX3 C3 B3 hg3 RXL
          go_wp2_with fail
          generalize w2.heap.size = G at *
          obtain ⟨ps, hps⟩ : ∃ ps : List (Pt Ca), ps = [⟨some y, xs.take P, cap⟩, ⟨dA 4 (some y) cap (P + 1), xs.drop (P + 1), cap - (P + 1)⟩, ⟨some ⟨G, 0, none⟩, [nw a now], 1⟩] := ⟨_, rfl⟩
          have HPM2 := Lib.hid fun W => HPM.out G W
          have HCC2 := Lib.hid fun W => HCC.out G W
          have HPL := Lib.hid (show ps.length = 3 by rw [hps]; rfl)
          rw [← hps] at HPM2 HCC2
          clear hps HPM HCC
          refine wp_region_below [fx (.slice (some y) L cap), fx (.int .i64 (P : Int)), fx (.slice (some y) P cap), fx (.slice (some y) L cap), fx (.int .i64 (P : Int)), fx (.int .i64 ((P + 1 : Nat) : Int)), fx (.slice (dA 4 (some y) cap (P + 1)) (L - (P + 1)) (cap - (P + 1))), fx (.slice (some ⟨G, 0, none⟩) 1 1), pF ps, oF w.heap.size ys, oF w.heap.size ys, fx (.int .i64 0)]
            (by kernel_rfl) (by kernel_rfl) (by kernel_rfl) ?_ ?_ ?_
          · simp only [List.mem_cons, List.not_mem_nil, or_false]
            rintro φ (rfl | rfl | rfl | rfl | rfl | rfl | rfl | rfl | rfl | rfl | rfl | rfl)
            all_goals first | exact stable_fx _ | exact stable_fr _ _ | exact stable_pF _ | exact stable_oF _ _
          · refine OgSteps.cons ?_ (OgSteps.cons ?_ (OgSteps.cons ?_ (OgSteps.cons ?_ (OgSteps.cons ?_ (OgSteps.cons ?_ (OgSteps.cons ?_ (OgSteps.cons ?_ (OgSteps.cons ?_ (OgSteps.cons ?_ (OgSteps.cons ?_ (OgSteps.cons ?_ (OgSteps.nil))))))))))))
            · refine OgStep.pure ?_ ?_
              · rfl
              intro u W hS hp
              refine ⟨.slice (some y) L cap, ?_, rfl⟩
              simp only [ogMk, Act.put, List.setIfInBounds_toArray, List.set_cons_zero, List.set_cons_succ, Nat.zero_add, Nat.reduceAdd, List.take_succ_cons, List.take_zero, List.drop_succ_cons, List.drop_zero]
              simp [execOp, Act.eval, go_sem]
            · refine OgStep.pure ?_ ?_
              · rfl
              intro u W hS hp
              refine ⟨.int .i64 (P : Int), ?_, rfl⟩
              simp only [ogMk, Act.put, List.setIfInBounds_toArray, List.set_cons_zero, List.set_cons_succ, Nat.zero_add, Nat.reduceAdd, List.take_succ_cons, List.take_zero, List.drop_succ_cons, List.drop_zero]
              simp [execOp, Act.eval, go_sem]
            · refine OgStep.pure ?_ ?_
              · rfl
              intro u W hS hp
              have h0 : u 0 = .slice (some y) L cap := hp ⟨0, .data⟩ (by simp) rfl
              have h1 : u 1 = .int .i64 (P : Int) := hp ⟨1, .data⟩ (by simp) rfl
              have R := HSH.out W
              refine ⟨.slice (some y) P cap, ?_, rfl⟩
              simp only [ogMk, Act.put, List.setIfInBounds_toArray, List.set_cons_zero, List.set_cons_succ, Nat.zero_add, Nat.reduceAdd, List.take_succ_cons, List.take_zero, List.drop_succ_cons, List.drop_zero]
              simp [execOp, Act.eval, go_sem, h0, h1, R]
            · refine OgStep.pure ?_ ?_
              · rfl
              intro u W hS hp
              refine ⟨.slice (some y) L cap, ?_, rfl⟩
              simp only [ogMk, Act.put, List.setIfInBounds_toArray, List.set_cons_zero, List.set_cons_succ, Nat.zero_add, Nat.reduceAdd, List.take_succ_cons, List.take_zero, List.drop_succ_cons, List.drop_zero]
              simp [execOp, Act.eval, go_sem]
            · refine OgStep.pure ?_ ?_
              · rfl
              intro u W hS hp
              refine ⟨.int .i64 (P : Int), ?_, rfl⟩
              simp only [ogMk, Act.put, List.setIfInBounds_toArray, List.set_cons_zero, List.set_cons_succ, Nat.zero_add, Nat.reduceAdd, List.take_succ_cons, List.take_zero, List.drop_succ_cons, List.drop_zero]
              simp [execOp, Act.eval, go_sem]
            · refine OgStep.pure ?_ ?_
              · rfl
              intro u W hS hp
              have h4 : u 4 = .int .i64 (P : Int) := hp ⟨4, .data⟩ (by simp) rfl
              have R := HW.out
              refine ⟨.int .i64 ((P + 1 : Nat) : Int), ?_, rfl⟩
              simp only [ogMk, Act.put, List.setIfInBounds_toArray, List.set_cons_zero, List.set_cons_succ, Nat.zero_add, Nat.reduceAdd, List.take_succ_cons, List.take_zero, List.drop_succ_cons, List.drop_zero]
              simp [execOp, Act.eval, go_sem, h4, R]
            · refine OgStep.pure ?_ ?_
              · rfl
              intro u W hS hp
              have h3 : u 3 = .slice (some y) L cap := hp ⟨3, .data⟩ (by simp) rfl
              have h5 : u 5 = .int .i64 ((P + 1 : Nat) : Int) := hp ⟨5, .data⟩ (by simp) rfl
              have R := HSL.out W
              rw [show ((P + 1 : Nat) : Int) = (P : Int) + 1 by omega] at R
              refine ⟨.slice (dA 4 (some y) cap (P + 1)) (L - (P + 1)) (cap - (P + 1)), ?_, rfl⟩
              simp only [ogMk, Act.put, List.setIfInBounds_toArray, List.set_cons_zero, List.set_cons_succ, Nat.zero_add, Nat.reduceAdd, List.take_succ_cons, List.take_zero, List.drop_succ_cons, List.drop_zero]
              simp [execOp, Act.eval, go_sem, h3, h5, R]
            · refine OgStep.pure ?_ ?_
              · rfl
              intro u W hS hp
              refine ⟨.slice (some ⟨G, 0, none⟩) 1 1, ?_, rfl⟩
              simp only [ogMk, Act.put, List.setIfInBounds_toArray, List.set_cons_zero, List.set_cons_succ, Nat.zero_add, Nat.reduceAdd, List.take_succ_cons, List.take_zero, List.drop_succ_cons, List.drop_zero]
              simp [execOp, Act.eval, go_sem]
            · refine OgStep.made ?_ ?_
              · rfl
              intro u W hS hp
              have h2 : u 2 = .slice (some y) P cap := hp ⟨2, .data⟩ (by simp) rfl
              have h6 : u 6 = .slice (dA 4 (some y) cap (P + 1)) (L - (P + 1)) (cap - (P + 1)) := hp ⟨6, .data⟩ (by simp) rfl
              have h7 : u 7 = .slice (some ⟨G, 0, none⟩) 1 1 := hp ⟨7, .data⟩ (by simp) rfl
              refine ⟨.slice (some ⟨W.heap.size, 0, none⟩) 3 3, _, ?_, (Below.refl _ W).alloc (Nat.le_refl _) _, HPM2.out W (R6.out.below hS) (RX6.out.below hS)⟩
              simp only [ogMk, Act.put, List.setIfInBounds_toArray, List.set_cons_zero, List.set_cons_succ, Nat.zero_add, Nat.reduceAdd, List.take_succ_cons, List.take_zero, List.drop_succ_cons, List.drop_zero]
              simp [execOp, Act.eval, go_sem, h2, h6, h7]
            · refine OgStep.calls ?_ ?_
              · rfl
              intro u W hS hp
              obtain ⟨b, h8, hPm⟩ : pF ps (u 8) W := hp ⟨8, .data⟩ (by simp) rfl
              refine ⟨35, #[.slice (some ⟨b, 0, none⟩) 3 3], ?_, HCC2.out W (HB6.out.trans (hS.mono HB6.out.size)) b hPm⟩
              simp only [ogMk, Act.put, List.setIfInBounds_toArray, List.set_cons_zero, List.set_cons_succ, Nat.zero_add, Nat.reduceAdd, List.take_succ_cons, List.take_zero, List.drop_succ_cons, List.drop_zero]
              rw [h8, HPL.out]
              simp [execOp, Act.eval, go_sem]
            · refine OgStep.pure ?_ ?_
              · rfl
              intro u W hS hp
              have h9 : oF w.heap.size ys (u 9) W := hp ⟨9, .data⟩ (by simp) rfl
              refine ⟨u 9, ?_, h9⟩
              simp only [ogMk, Act.put, List.setIfInBounds_toArray, List.set_cons_zero, List.set_cons_succ, Nat.zero_add, Nat.reduceAdd, List.take_succ_cons, List.take_zero, List.drop_succ_cons, List.drop_zero]
              simp [execOp, Act.eval, go_sem]
            · refine OgStep.pure ?_ ?_
              · rfl
              intro u W hS hp
              refine ⟨.int .i64 0, ?_, rfl⟩
              simp only [ogMk, Act.put, List.setIfInBounds_toArray, List.set_cons_zero, List.set_cons_succ, Nat.zero_add, Nat.reduceAdd, List.take_succ_cons, List.take_zero, List.drop_succ_cons, List.drop_zero]
              simp [execOp, Act.eval, go_sem]
          · intro u W hS hF'
            have hF9 : oF w.heap.size ys (u 10) W := hF' 10 (by decide)
            have hF := hF'
            have e0 : u 0 = .slice (some y) L cap := hF 0 (by decide)
            have e1 : u 1 = .int .i64 (P : Int) := hF 1 (by decide)
            have e2 : u 2 = .slice (some y) P cap := hF 2 (by decide)
            have e3 : u 3 = .slice (some y) L cap := hF 3 (by decide)
            have e4 : u 4 = .int .i64 (P : Int) := hF 4 (by decide)
            have e5 : u 5 = .int .i64 ((P + 1 : Nat) : Int) := hF 5 (by decide)
            have e6 : u 6 = .slice (dA 4 (some y) cap (P + 1)) (L - (P + 1)) (cap - (P + 1)) := hF 6 (by decide)
            have e7 : u 7 = .slice (some ⟨G, 0, none⟩) 1 1 := hF 7 (by decide)
            have e11 : u 11 = .int .i64 0 := hF 11 (by decide)
            simp only [ogMk, Act.put, List.setIfInBounds_toArray, List.set_cons_zero, List.set_cons_succ, Nat.zero_add, Nat.reduceAdd, List.take_succ_cons, List.take_zero, List.drop_succ_cons, List.drop_zero]
            rw [e0, e1, e2, e3, e4, e5, e6, e7, e11]
            clear hF' e0 e1 e2 e3 e4 e5 e6 e7 e11 hF
            go_wp2_with fail
            go_ret2
            exact out_yes (hF9 : W.ownsRow w.heap.size 37 4 (u 10) ys.length (eA.cs ys)) HYL.out (HB6.out.trans (hS.mono HB6.out.size))
    · rw [if_pos rfl] at HRS
      have HT := Lib.hid HRS.out
      rw [HT.out]
      clear h HRS HSA HSP HT
      generalize xs.length = L at *
      go_enter Try.func23, Try.ntmps23
      go_wp2_with fail
      generalize w.alloc (.cells #[.int .i64 c.a, .int .i64 c.b, .int .i64 c.c, .int .i64 c.d, .int .i64 c.e, .int .i64 c.f, .int .i64 c.g, .int .i64 c.h, .int .i64 c.i] 27) = W0 at *
      refine HFI.out.mono ?_
      rintro e w1 ⟨rfl, hb⟩
      have B1 := Lib.hid (HB0.out.trans (hb.mono HB0.out.size))
      have R1 := Lib.hid (R0.out.below hb)
      have C1 := Lib.hid (C0.out.below hb)
      clear hb R0 C0
      go_wp2_with (refine at_load27 (.tmp 4) rfl rfl _ c rfl C1.out.at ?_)
      refine (HAQ.out _ R1.out).mono ?_
      rintro e w2 ⟨rfl, hb⟩
      have B2 := Lib.hid (B1.out.trans (hb.mono B1.out.size))
      clear hb R1 C1
      go_wp2_with fail
      go_ret2
      exact out_no w w2 8 B2.out
end Go.Proofs.Ytmaaniokfpkbjaa
