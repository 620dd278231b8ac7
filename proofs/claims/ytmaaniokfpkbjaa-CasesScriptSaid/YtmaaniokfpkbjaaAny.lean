/-
  The contracts of cases.Find and cases.anyQuiet. Conditions: the row lies in memory.
-/
import Derived.BigGuard
import Derived.Test.YtmaaniokfpkbjaaOpn
set_option linter.unusedSimpArgs false
set_option linter.unusedVariables false
namespace Go.Proofs.Ytmaaniokfpkbjaa
open Go.RowKit

/-- Whether a case is one of this address that goes on. -/
def fm (a : Int) (x : Ca) : Bool := (x.a == a) && opB x
/-- Where the first case of an address stands that goes on. -/
def fnd (a : Int) (xs : List Ca) : Option Nat := xs.findIdx? (fm a)
def fnI (o : Option Nat) : Int := match o with
  | some k => (k : Int)
  | none => -1
theorem fnd_take {a : Int} {xs : List Ca} {k : Nat} {x : Ca} (h : fnd a (xs.take k) = none) (hx : xs[k]? = some x) : fnd a (xs.take (k + 1)) = if fm a x = true then some k else none := by
  unfold fnd at *
  have hl : (xs.take k).length = k := by rw [List.length_take]; have := (List.getElem?_eq_some_iff.1 hx).1; omega
  rw [List.take_add_one, hx, List.findIdx?_append, h]
  simp only [Option.toList_some, Option.none_or, List.findIdx?_cons, List.findIdx?_nil, hl]
  split <;> simp
theorem fnd_found {a : Int} {xs : List Ca} {k : Nat} {x : Ca} (h : fnd a (xs.take k) = none) (hx : xs[k]? = some x) (hm : fm a x = true) : fnd a xs = some k := by
  have h2 := fnd_take h hx
  rw [if_pos hm] at h2
  unfold fnd at *
  have e : xs = xs.take (k + 1) ++ xs.drop (k + 1) := (List.take_append_drop _ _).symm
  rw [e, List.findIdx?_append, h2]
  rfl
theorem fnd_lt {a : Int} {xs : List Ca} {k : Nat} (h : fnd a xs = some k) : k < xs.length := by
  unfold fnd at h
  obtain ⟨h1, _⟩ := List.findIdx?_eq_some_iff_getElem.1 h
  exact h1
/-- Whether some case keeps an address quiet. -/
def am (q a now : Int) (x : Ca) : Bool := (x.a == a) && qtB q x now
def aqB (q a now : Int) (xs : List Ca) : Bool := xs.any (am q a now)
theorem aq_take {q a now : Int} {xs : List Ca} {k : Nat} {x : Ca} (hx : xs[k]? = some x) : aqB q a now (xs.take (k + 1)) = (aqB q a now (xs.take k) || am q a now x) := by
  unfold aqB
  rw [List.take_add_one, hx]
  simp
theorem aq_yes {q a now : Int} {xs : List Ca} {k : Nat} {x : Ca} (hx : xs[k]? = some x) (h : am q a now x = true) : aqB q a now xs = true := List.any_eq_true.2 ⟨x, List.mem_of_getElem? hx, h⟩

set_option maxRecDepth 100000 in
set_option maxHeartbeats 4000000 in
theorem find_any (a : Int) (A : Option Addr) (xs : List Ca) (cap : Nat) (w : World) (h : Rw eA w A xs) :
    Calls Try.prog 22 #[.slice A xs.length cap, .int .u32 a] w fun e w' => e = .returned (.int .i64 (fnI (fnd a xs))) ∧ Below w.heap.size w w' := by
  have hln := h.1
  have R := Lib.hid h
  have HOP := Lib.hid fun x W => open_any x W
  clear h
  obtain ⟨L, hL⟩ : ∃ L, xs.length = L := ⟨_, rfl⟩
  have HL := Lib.hid hL
  rw [hL] at hln ⊢
  clear hL
  go_enter Try.func22, Try.ntmps22
  go_wp2_with fail
  go_loopw [9] (fun i wr => ∃ k : Nat, i = .int .i64 k ∧ k ≤ L ∧ Hid (Below w.heap.size w wr) ∧ Hid (fnd a (xs.take k) = none)) (fun i _ => L - (intOf i).toNat)
  case atStart => exact ⟨0, rfl, by omega, Lib.hid (Below.refl _ _), Lib.hid (by simp [fnd])⟩
  case round =>
    obtain ⟨k, rfl, hk, HW, HF⟩ := hrel
    by_cases hkL : k < L
    · obtain ⟨x, hx⟩ := at_of_lt (xs := xs) (k := k) (by rw [HL.out]; exact hkL)
      obtain ⟨y, rfl⟩ := rw_some R.out (by rw [HL.out]; omega)
      have hat := (R.out.below HW.out).at hx
      have B1 := Lib.hid (show Below w.heap.size w (wr.alloc (Cax x)) from HW.out.alloc HW.out.size _)
      have Q1 := Lib.hid (qb_box wr x)
      have HPT := Lib.hid fun hm => fnd_take (a := a) HF.out hx |>.trans (if_neg hm)
      have HPF := Lib.hid fun hm => fnd_found (a := a) HF.out hx hm
      have HM := Lib.hid (show fm a x = ((x.a == a) && opB x) from rfl)
      have HO := HOP.out x
      clear hx
      obtain ⟨s0, s1, s2, s3⟩ := ca_box wr x
      unfold cav Cax at *
      cases he : (x.a == a)
      · have HE := Lib.hid he
        go_wp2_with (refine at_load37 (.tmp 12) rfl rfl (y.add (k * 4)) x rfl hat ?_)
        go_roundw
        case rel => exact ⟨k + 1, by go_num, by omega, B1, Lib.hid (HPT.out (by rw [HM.out, HE.out]; simp))⟩
        case measure => simp [intOf]; omega
      · have HE := Lib.hid he
        have HO := Lib.hid HO
        go_wp2_with (first | (refine at_load37 (.tmp 12) rfl rfl (y.add (k * 4)) x rfl hat ?_) | (refine at_load37g (.tmp 6) _ x rfl ?_ rfl Q1.out.at ?_; (with_reducible rfl)))
        obtain ⟨b, hb0⟩ : ∃ b, opB x = b := ⟨_, rfl⟩
        rw [hb0] at HO HM
        refine (HO.out _).mono ?_
        rintro e w1 ⟨rfl, hb⟩
        have B2 := Lib.hid (B1.out.trans (hb.mono B1.out.size))
        clear hb hb0
        cases b
        · go_wp2_with fail
          go_roundw
          case rel => exact ⟨k + 1, by go_num, by omega, B2, Lib.hid (HPT.out (by rw [HM.out]; simp))⟩
          case measure => simp [intOf]; omega
        · go_wp2_with fail
          go_ret
          exact ⟨by rw [HPF.out (by rw [HM.out, HE.out]; rfl)]; rfl, B2.out⟩
    · obtain rfl : k = L := by omega
      have HP := Lib.hid (show fnd a xs = none by rw [← HF.out, List.take_of_length_le (by rw [HL.out]; exact Nat.le_refl _)])
      go_wp2_with fail
      go_ret
      exact ⟨by rw [HP.out]; rfl, HW.out⟩
set_option maxRecDepth 100000 in
set_option maxHeartbeats 4000000 in
theorem anyQuiet_any (c : Cf) (a now : Int) (A : Option Addr) (xs : List Ca) (cap : Nat) (w : World) (h : Rw eA w A xs) :
    Calls Try.prog 33 #[cfv c, .slice A xs.length cap, .int .u32 a, .int .i64 now] w fun e w' => e = .returned (.bool (aqB c.i a now xs)) ∧ Below w.heap.size w w' := by
  have hln := h.1
  have HB := Lib.hid (show Below w.heap.size w (w.alloc (Cfx c)) from (Below.refl _ w).alloc (Nat.le_refl _) _)
  have R := Lib.hid (h.below HB.out)
  have C0 := Lib.hid (cm_box w c)
  have HQT := Lib.hid fun x W => quiet_any c x now W
  clear h
  obtain ⟨L, hL⟩ : ∃ L, xs.length = L := ⟨_, rfl⟩
  have HL := Lib.hid hL
  rw [hL] at hln ⊢
  clear hL
  unfold cfv Cfx at *
  go_enter Try.func33, Try.ntmps33
  go_wp2_with fail
  generalize w.alloc (.cells #[.int .i64 c.a, .int .i64 c.b, .int .i64 c.c, .int .i64 c.d, .int .i64 c.e, .int .i64 c.f, .int .i64 c.g, .int .i64 c.h, .int .i64 c.i] 27) = W at *
  go_loopw [13] (fun i wr => ∃ k : Nat, i = .int .i64 k ∧ k ≤ L ∧ Hid (Below W.heap.size W wr) ∧ Hid (aqB c.i a now (xs.take k) = false)) (fun i _ => L - (intOf i).toNat)
  case atStart => exact ⟨0, rfl, by omega, Lib.hid (Below.refl _ _), Lib.hid (by simp [aqB])⟩
  case round =>
    obtain ⟨k, rfl, hk, HW, HF⟩ := hrel
    by_cases hkL : k < L
    · obtain ⟨x, hx⟩ := at_of_lt (xs := xs) (k := k) (by rw [HL.out]; exact hkL)
      obtain ⟨y, rfl⟩ := rw_some R.out (by rw [HL.out]; omega)
      have hat := (R.out.below HW.out).at hx
      have B1 := Lib.hid (show Below W.heap.size W (wr.alloc (Cax x)) from HW.out.alloc HW.out.size _)
      have Q1 := Lib.hid (qb_box wr x)
      have C1 := Lib.hid (C0.out.below B1.out)
      have HT := Lib.hid (aq_take (q := c.i) (a := a) (now := now) hx)
      have HY := Lib.hid fun hm => aq_yes (q := c.i) (a := a) (now := now) hx hm
      have HM := Lib.hid (show am c.i a now x = ((x.a == a) && qtB c.i x now) from rfl)
      have HO := HQT.out x
      clear hx
      obtain ⟨s0, s1, s2, s3⟩ := ca_box wr x
      unfold cav Cax at *
      cases he : (x.a == a)
      · have HE := Lib.hid he
        go_wp2_with (refine at_load37 (.tmp 15) rfl rfl (y.add (k * 4)) x rfl hat ?_)
        go_roundw
        case rel => exact ⟨k + 1, by go_num, by omega, B1, Lib.hid (by rw [HT.out, HF.out, HM.out, HE.out]; rfl)⟩
        case measure => simp [intOf]; omega
      · have HE := Lib.hid he
        have HO := Lib.hid HO
        go_wp2_with (first | (refine at_load37 (.tmp 15) rfl rfl (y.add (k * 4)) x rfl hat ?_) | (refine at_load37g (.tmp 10) _ x rfl ?_ rfl Q1.out.at ?_; (with_reducible rfl)) | (refine at_load27g (.tmp 4) _ c rfl ?_ rfl C1.out.at ?_; (with_reducible rfl)))
        obtain ⟨b, hb0⟩ : ∃ b, qtB c.i x now = b := ⟨_, rfl⟩
        rw [hb0] at HO HM
        refine (HO.out _).mono ?_
        rintro e w1 ⟨rfl, hb⟩
        have B2 := Lib.hid (B1.out.trans (hb.mono B1.out.size))
        clear hb hb0
        cases b
        · go_wp2_with fail
          go_roundw
          case rel => exact ⟨k + 1, by go_num, by omega, B2, Lib.hid (by rw [HT.out, HF.out, HM.out]; simp)⟩
          case measure => simp [intOf]; omega
        · go_wp2_with fail
          go_ret
          exact ⟨by rw [HY.out (by rw [HM.out, HE.out]; rfl)]; rfl, HB.out.trans (B2.out.mono HB.out.size)⟩
    · obtain rfl : k = L := by omega
      have HP := Lib.hid (show aqB c.i a now xs = false by rw [← HF.out, List.take_of_length_le (by rw [HL.out]; exact Nat.le_refl _)])
      go_wp2_with fail
      go_ret
      exact ⟨by rw [HP.out]; rfl, HB.out.trans (HW.out.mono HB.out.size)⟩
end Go.Proofs.Ytmaaniokfpkbjaa
