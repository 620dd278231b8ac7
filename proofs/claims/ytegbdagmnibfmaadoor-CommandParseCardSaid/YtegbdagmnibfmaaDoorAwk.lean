/-
  The document's examples: what the statements' own 'awake' answers. Conditions: the library's variables lie as their texts lay them (Env).
-/
import Derived.Test.YtegbdagmnibfmaaDoorSm
import Derived.Test.YtegbdagmnibfmaaDoorEqe
set_option linter.unusedSimpArgs false
set_option linter.unusedVariables false
namespace Go.Proofs.YtegbdagmnibfmaaDoor
open Go.RowKit

/-- What the rows' variables give: the handle of 'error', the table of powers of ten. -/
structure Env (w : World) : Prop where
  et : Et w
  tab : Tab w
theorem Env.keep {w w' : World} (h : Env w) (hb : Below w.heap.size w w') : Env w' := ⟨h.et.keep hb, h.tab.below hb⟩

def egA : ByteArray := ⟨#[104, 111, 108, 100, 32, 49, 48, 46, 48, 46, 48, 46, 49, 32, 97, 110, 110, 32, 48, 50, 58, 48, 48, 58, 48, 48, 58, 48, 48, 58, 48, 48, 58, 48, 49]⟩
def egB : ByteArray := ⟨#[104, 111, 108, 100, 32, 49, 48, 46, 48, 46, 48, 46, 49, 32, 65, 110, 110]⟩
def evA : Ev := ⟨1, 167772161, ⟨#[97, 110, 110]⟩, 2, 0, 0, 0, 0, 1, 0, 0⟩
theorem egA_ok : psO egA = (evA, 0, 0) := by
  have hw : wl egA.data.toList = [[104, 111, 108, 100], [49, 48, 46, 48, 46, 48, 46, 49], [97, 110, 110], [48, 50, 58, 48, 48, 58, 48, 48, 58, 48, 48, 58, 48, 48, 58, 48, 49]] := by decide +kernel
  have hk : knd ⟨([104, 111, 108, 100] : List UInt8).toArray⟩ = 1 := by decide +kernel
  rw [psO_words (by decide) hw hk (by decide) (by decide) (by decide)]
  simp only [hk]
  unfold ho4
  have e1 : Ad.parseO (⟨([49, 48, 46, 48, 46, 48, 46, 49] : List UInt8).toArray⟩ : ByteArray).data.toList = some 167772161 := by decide +kernel
  rw [e1]
  have e2 : Hd.mayB ⟨([97, 110, 110] : List UInt8).toArray⟩ = true := by decide +kernel
  have e3 : Mc.okB ⟨([48, 50, 58, 48, 48, 58, 48, 48, 58, 48, 48, 58, 48, 48, 58, 48, 49] : List UInt8).toArray⟩ = true := by decide +kernel
  have e4 : badB ⟨([48, 50, 58, 48, 48, 58, 48, 48, 58, 48, 48, 58, 48, 48, 58, 48, 49] : List UInt8).toArray⟩ = false := by decide +kernel
  have m0 : Mc.mb ⟨([48, 50, 58, 48, 48, 58, 48, 48, 58, 48, 48, 58, 48, 48, 58, 48, 49] : List UInt8).toArray⟩ 0 = 2 := by decide +kernel
  have m1 : Mc.mb ⟨([48, 50, 58, 48, 48, 58, 48, 48, 58, 48, 48, 58, 48, 48, 58, 48, 49] : List UInt8).toArray⟩ 1 = 0 := by decide +kernel
  have m2 : Mc.mb ⟨([48, 50, 58, 48, 48, 58, 48, 48, 58, 48, 48, 58, 48, 48, 58, 48, 49] : List UInt8).toArray⟩ 2 = 0 := by decide +kernel
  have m3 : Mc.mb ⟨([48, 50, 58, 48, 48, 58, 48, 48, 58, 48, 48, 58, 48, 48, 58, 48, 49] : List UInt8).toArray⟩ 3 = 0 := by decide +kernel
  have m4 : Mc.mb ⟨([48, 50, 58, 48, 48, 58, 48, 48, 58, 48, 48, 58, 48, 48, 58, 48, 49] : List UInt8).toArray⟩ 4 = 0 := by decide +kernel
  have m5 : Mc.mb ⟨([48, 50, 58, 48, 48, 58, 48, 48, 58, 48, 48, 58, 48, 48, 58, 48, 49] : List UInt8).toArray⟩ 5 = 1 := by decide +kernel
  simp only [e2, e3, e4, m0, m1, m2, m3, m4, m5, if_true, Bool.false_eq_true, if_false]
  rfl
theorem egB_ok : psO egB = (zev, 2, 3) := by
  have hw : wl egB.data.toList = [[104, 111, 108, 100], [49, 48, 46, 48, 46, 48, 46, 49], [65, 110, 110]] := by decide +kernel
  have hk : knd ⟨([104, 111, 108, 100] : List UInt8).toArray⟩ = 1 := by decide +kernel
  rw [psO_words (by decide) hw hk (by decide) (by decide) (by decide)]
  simp only [hk]
  unfold ho3
  have e1 : Ad.parseO (⟨([49, 48, 46, 48, 46, 48, 46, 49] : List UInt8).toArray⟩ : ByteArray).data.toList = some 167772161 := by decide +kernel
  have e2 : Hd.mayB ⟨([65, 110, 110] : List UInt8).toArray⟩ = false := by decide +kernel
  rw [e1]
  simp only [e2, Bool.false_eq_true, if_false]
theorem vA : Ve evA := .inr (.inr ⟨rfl, rfl, by decide, by decide, by decide +kernel, ⟨by decide, by decide, by decide, by decide, by decide, by decide, by decide, by decide, by decide, by decide, by decide, by decide⟩, .inr (by decide)⟩)
theorem txt_A : txt evA = egA := by
  have e1 : Ad.textL 167772161 = [49, 48, 46, 48, 46, 48, 46, 49] := (Ad.parse_back (l := [49, 48, 46, 48, 46, 48, 46, 49]) (by decide +kernel)).symm
  have e2 : (mt 2 0 0 0 0 1).data.toList = [48, 50, 58, 48, 48, 58, 48, 48, 58, 48, 48, 58, 48, 48, 58, 48, 49] := by decide +kernel
  unfold txt txL
  rw [if_neg (by decide), if_neg (by decide), if_neg (by decide +kernel)]
  show (⟨(wL 1 ++ 32 :: (Ad.textL 167772161 ++ 32 :: ([97, 110, 110] ++ 32 :: (mt 2 0 0 0 0 1).data.toList))).toArray⟩ : ByteArray) = egA
  rw [e1, e2]
  rfl

set_option maxRecDepth 100000 in
set_option maxHeartbeats 4000000 in
theorem awake_any (w : World) (hE : Env w) : Calls Tryd.prog 7 #[] w fun e w' => e = .returned (.bool true) ∧ Below w.heap.size w w' := by
  have hA := fun W => parse_any egA W (by decide)
  rw [egA_ok] at hA
  have hB := fun W => parse_any egB W (by decide)
  rw [egB_ok] at hB
  have hT := fun W h => text_any evA W vA h
  rw [txt_A] at hT
  have HA : Hid (∀ W, Calls Tryd.prog 10 #[.string ⟨#[104, 111, 108, 100, 32, 49, 48, 46, 48, 46, 48, 46, 49, 32, 97, 110, 110, 32, 48, 50, 58, 48, 48, 58, 48, 48, 58, 48, 48, 58, 48, 48, 58, 48, 49]⟩] W (PPost W (evA, 0, 0))) := hA
  have HB : Hid (∀ W, Calls Tryd.prog 10 #[.string ⟨#[104, 111, 108, 100, 32, 49, 48, 46, 48, 46, 48, 46, 49, 32, 65, 110, 110]⟩] W (PPost W (zev, 2, 3))) := hB
  have HT := Lib.hid hT
  have HE := Lib.hid hE
  clear hA hB hT hE
  go_enter Tryd.func7, Tryd.ntmps7
  go_wp2_with fail
  refine (HA.out _).mono ?_
  rintro e w1 ⟨⟨ev, rfl, pe⟩, hb1⟩
  have hev : ev = .nilIface := by rcases pe with ⟨-, h⟩ | ⟨h, -⟩ | ⟨h, -⟩ <;> first | exact h | exact absurd rfl h
  subst hev
  clear pe
  have H1 := Lib.hid hb1
  clear hb1
  have Z1 := Lib.hid (ev_box w1 zev)
  have B0 := Lib.hid (H1.out.alloc H1.out.size (Evx zev))
  have L1 := Lib.hid H1.out.size
  go_wp2_with (refine at_store41 _ _ w1.heap.size zev evA Z1.out rfl rfl rfl rfl ?_; intro wy Q1 BY GY; have B1 := Lib.hid (B0.out.trans (BY.out _ L1.out)))
  refine (HB.out _).mono ?_
  rintro e w2 ⟨⟨ev, rfl, pe⟩, hb2⟩
  have Q2 := Lib.hid (Q1.out.belowX hb2)
  have B2 := Lib.hid (B1.out.trans (hb2.mono B1.out.size))
  have Q3 := Lib.hid (Q2.out.belowX ((Below.refl _ w2).alloc (Nat.le_refl _) (Evx zev)))
  have B3 := Lib.hid (B2.out.alloc B2.out.size (Evx zev))
  have PE3 := Lib.hid (pe.keep ((Below.refl _ w2).alloc (Nat.le_refl _) (Evx zev)))
  have Z3 := Lib.hid (ev_box w2 zev)
  have L2 := Lib.hid B2.out.size
  have LQ := Lib.hid Q2.out.ltE
  clear hb2 pe
  go_wp2_with (refine at_store41 _ _ w2.heap.size zev zev Z3.out rfl rfl rfl rfl ?_; intro wz QZ BZ GZ; have B4 := Lib.hid (B3.out.trans (BZ.out _ L2.out)); have Q4 := Lib.hid (Q3.out.keep (BZ.out _ (Nat.le_refl _)) LQ.out); have PE4 := Lib.hid (PE3.out.store Z3.out GZ.out))
  refine (where_any 2 3 ev _ PE4.out (HE.out.keep B4.out).et).mono ?_
  rintro e w3 ⟨rfl, hb3⟩
  have Q5 := Lib.hid (Q4.out.belowX hb3)
  have B5 := Lib.hid (B4.out.trans (hb3.mono B4.out.size))
  clear hb3
  have k0 := Q5.out.key 0 _ rfl
  have k2 := Q5.out.key 2 _ rfl
  simp only [evA] at k0 k2
  rw [show whA 2 3 = 2 from by decide, show (decide ((3 : Int) ≠ 0 ∧ (0 : Int) ≤ 2)) = true from by decide]
  go_wp2_with (refine at_load41g _ w1.heap.size evA Q5.out rfl rfl rfl ?_)
  refine (HT.out _ (HE.out.keep B5.out).tab).mono ?_
  rintro e w4 ⟨rfl, hb4⟩
  have B6 := Lib.hid (B5.out.trans (hb4.mono B5.out.size))
  clear hb4
  simp only [egA]
  go_wp2_with fail
  go_ret
  exact ⟨rfl, B6.out⟩
end Go.Proofs.YtegbdagmnibfmaaDoor
