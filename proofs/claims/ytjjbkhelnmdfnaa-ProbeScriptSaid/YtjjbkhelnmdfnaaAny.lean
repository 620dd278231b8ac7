/-
  The contracts of probe.anyTo, probe.place and probe.rightProbe. Conditions: the row lies in memory.
-/
import Derived.BigGuard
import Derived.Test.YtjjbkhelnmdfnaaVar
set_option linter.unusedSimpArgs false
set_option linter.unusedVariables false
namespace Go.Proofs.Ytjjbkhelnmdfnaa
open Go.RowKit

/-- Whether a question of a row is to this address. -/
def toB (xs : List Pr) (a : Int) : Bool := xs.any fun x => x.a == a
theorem to_take {xs : List Pr} {a : Int} {k : Nat} {x : Pr} (hx : xs[k]? = some x) : toB (xs.take (k + 1)) a = (toB (xs.take k) a || (x.a == a)) := by
  unfold toB
  rw [List.take_add_one, hx]
  simp
theorem to_yes {xs : List Pr} {a : Int} {k : Nat} {x : Pr} (hx : xs[k]? = some x) (h : (x.a == a) = true) : toB xs a = true := List.any_eq_true.2 ⟨x, List.mem_of_getElem? hx, h⟩

set_option maxRecDepth 100000 in
set_option maxHeartbeats 2000000 in
theorem anyTo_any (a : Int) (A : Option Addr) (xs : List Pr) (cap : Nat) (w : World) (h : Rw eP w A xs) :
    Calls Try.prog 26 #[.slice A xs.length cap, .int .u32 a] w fun e w' => e = .returned (.bool (toB xs a)) ∧ Below w.heap.size w w' := by
  have hln := h.1
  have R := Lib.hid h
  clear h
  obtain ⟨L, hL⟩ : ∃ L, xs.length = L := ⟨_, rfl⟩
  have HL := Lib.hid hL
  rw [hL] at hln ⊢
  clear hL
  go_enter Try.func26, Try.ntmps26
  go_wp2_with fail
  go_loopw [9] (fun i wr => ∃ k : Nat, i = .int .i64 k ∧ k ≤ L ∧ Hid (Below w.heap.size w wr) ∧ Hid (toB (xs.take k) a = false)) (fun i _ => L - (intOf i).toNat)
  case atStart => exact ⟨0, rfl, by omega, Lib.hid (Below.refl _ _), Lib.hid (by simp [toB])⟩
  case round =>
    obtain ⟨k, rfl, hk, HW, HF⟩ := hrel
    by_cases hkL : k < L
    · obtain ⟨x, hx⟩ := at_of_lt (xs := xs) (k := k) (by rw [HL.out]; exact hkL)
      obtain ⟨y, rfl⟩ := rw_some R.out (by rw [HL.out]; omega)
      have hat := (R.out.below HW.out).at hx
      have HX := Lib.hid hx
      have B1 := Lib.hid (show Below w.heap.size w (wr.alloc (Prx x)) from HW.out.alloc HW.out.size _)
      unfold Prx at *
      clear hx
      cases he : (x.a == a)
      · have HE := Lib.hid he
        go_wp2_with (refine at_load37 (.tmp 11) rfl rfl (y.add (k * 5)) x rfl hat ?_)
        go_roundw
        case rel => exact ⟨k + 1, by go_num, by omega, B1, Lib.hid (by rw [to_take HX.out, HF.out, HE.out]; rfl)⟩
        case measure => simp [intOf]; omega
      · have HE := Lib.hid he
        go_wp2_with (refine at_load37 (.tmp 11) rfl rfl (y.add (k * 5)) x rfl hat ?_)
        go_ret
        exact ⟨by rw [to_yes HX.out HE.out]; rfl, B1.out⟩
    · obtain rfl : k = L := by omega
      go_wp2_with fail
      go_ret
      exact ⟨by rw [show toB xs a = false by rw [← HF.out, List.take_of_length_le (by rw [HL.out]; exact Nat.le_refl _)]]; rfl, HW.out⟩

/-- Whether a packet answers a question. -/
def mt (p : Pk) (x : Pr) : Bool := p.a && ((x.a == p.f) && ((x.i == p.i) && (x.s == p.s)))
/-- Where the first question stands that a packet answers. -/
def plc (p : Pk) (xs : List Pr) : Option Nat := xs.findIdx? (mt p)
def plI (o : Option Nat) : Int := match o with
  | some k => (k : Int)
  | none => 0
def plB (o : Option Nat) : Bool := match o with
  | some _ => true
  | none => false
theorem plc_take {p : Pk} {xs : List Pr} {k : Nat} {x : Pr} (h : plc p (xs.take k) = none) (hx : xs[k]? = some x) : plc p (xs.take (k + 1)) = if mt p x = true then some k else none := by
  unfold plc at *
  have hl : (xs.take k).length = k := by rw [List.length_take]; have := (List.getElem?_eq_some_iff.1 hx).1; omega
  rw [List.take_add_one, hx, List.findIdx?_append, h]
  simp only [Option.toList_some, Option.none_or, List.findIdx?_cons, List.findIdx?_nil, hl]
  split <;> simp
theorem plc_found {p : Pk} {xs : List Pr} {k : Nat} {x : Pr} (h : plc p (xs.take k) = none) (hx : xs[k]? = some x) (hm : mt p x = true) : plc p xs = some k := by
  have h2 := plc_take h hx
  rw [if_pos hm] at h2
  unfold plc at *
  have e : xs = xs.take (k + 1) ++ xs.drop (k + 1) := (List.take_append_drop _ _).symm
  rw [e, List.findIdx?_append, h2]
  rfl
theorem plc_lt {p : Pk} {xs : List Pr} {k : Nat} (h : plc p xs = some k) : k < xs.length := by
  unfold plc at h
  obtain ⟨h1, _⟩ := List.findIdx?_eq_some_iff_getElem.1 h
  exact h1

set_option maxRecDepth 100000 in
set_option maxHeartbeats 4000000 in
theorem place_any (p : Pk) (A : Option Addr) (xs : List Pr) (cap : Nat) (w : World) (h : Rw eP w A xs) :
    Calls Try.prog 24 #[.slice A xs.length cap, pkv p] w fun e w' => e = .returned (.tuple #[.int .i64 (plI (plc p xs)), .bool (plB (plc p xs))]) ∧ Below w.heap.size w w' := by
  have hln := h.1
  have HB := Lib.hid (show Below w.heap.size w (w.alloc (Pkx p)) from (Below.refl _ w).alloc (Nat.le_refl _) _)
  have R := Lib.hid (h.below HB.out)
  have K0 := Lib.hid (kb_box w p)
  clear h
  obtain ⟨L, hL⟩ : ∃ L, xs.length = L := ⟨_, rfl⟩
  have HL := Lib.hid hL
  rw [hL] at hln ⊢
  clear hL
  unfold pkv Pkx at *
  go_enter Try.func24, Try.ntmps24
  go_wp2_with fail
  generalize w.alloc (.cells #[.bool p.a, .int .u32 p.f, .int .u32 p.t, .int .u8 p.m0, .int .u8 p.m1, .int .u8 p.m2, .int .u8 p.m3, .int .u8 p.m4, .int .u8 p.m5, .int .i64 p.i, .int .i64 p.s] 44) = W at *
  go_loopw [10] (fun i wr => ∃ k : Nat, i = .int .i64 k ∧ k ≤ L ∧ Hid (Below W.heap.size W wr) ∧ Hid (plc p (xs.take k) = none)) (fun i _ => L - (intOf i).toNat)
  case atStart => exact ⟨0, rfl, by omega, Lib.hid (Below.refl _ _), Lib.hid (by simp [plc])⟩
  case round =>
    obtain ⟨k, rfl, hk, HW, HF⟩ := hrel
    by_cases hkL : k < L
    · obtain ⟨x, hx⟩ := at_of_lt (xs := xs) (k := k) (by rw [HL.out]; exact hkL)
      obtain ⟨y, rfl⟩ := rw_some R.out (by rw [HL.out]; omega)
      have hat := (R.out.below HW.out).at hx
      have HX := Lib.hid hx
      have K1 := Lib.hid (K0.out.below HW.out)
      have B1 := Lib.hid (show Below W.heap.size W (wr.alloc (Prx x)) from HW.out.alloc HW.out.size _)
      obtain ⟨s0, s1, s2, s3, s4⟩ := pr_box wr x
      obtain ⟨c0, c1, c2, c3⟩ := (K1.out.below ((Below.refl _ wr).alloc (Nat.le_refl _) (Prx x))).c
      have HPT := Lib.hid fun hm => plc_take (p := p) HF.out hx (x := x) |>.trans (if_neg hm)
      have HPF := Lib.hid fun hm => plc_found (p := p) HF.out hx hm
      unfold Prx at *
      have hne := K1.out.lt
      clear hx K1
      obtain ⟨pa, hpa⟩ : ∃ q, p.a = q := ⟨_, rfl⟩
      have HMT := Lib.hid (show mt p x = (pa && ((x.a == p.f) && ((x.i == p.i) && (x.s == p.s)))) by rw [← hpa]; rfl)
      rw [hpa] at c0
      clear hpa
      cases pa
      · have HM := Lib.hid (show mt p x = false by rw [HMT.out]; rfl)
        go_wp2_with (refine at_load37 (.tmp 13) rfl rfl (y.add (k * 5)) x rfl hat ?_)
        go_roundw
        case rel => exact ⟨k + 1, by go_num, by omega, B1, Lib.hid (HPT.out (by rw [HM.out]; simp))⟩
        case measure => simp [intOf]; omega
      · cases h1 : (x.a == p.f)
        · have HM := Lib.hid (show mt p x = false by rw [HMT.out, h1]; simp)
          go_wp2_with (refine at_load37 (.tmp 13) rfl rfl (y.add (k * 5)) x rfl hat ?_)
          go_roundw
          case rel => exact ⟨k + 1, by go_num, by omega, B1, Lib.hid (HPT.out (by rw [HM.out]; simp))⟩
          case measure => simp [intOf]; omega
        · cases h2 : (x.i == p.i)
          · have HM := Lib.hid (show mt p x = false by rw [HMT.out, h1, h2]; simp)
            go_wp2_with (refine at_load37 (.tmp 13) rfl rfl (y.add (k * 5)) x rfl hat ?_)
            go_roundw
            case rel => exact ⟨k + 1, by go_num, by omega, B1, Lib.hid (HPT.out (by rw [HM.out]; simp))⟩
            case measure => simp [intOf]; omega
          · cases h3 : (x.s == p.s)
            · have HM := Lib.hid (show mt p x = false by rw [HMT.out, h1, h2, h3]; simp)
              go_wp2_with (refine at_load37 (.tmp 13) rfl rfl (y.add (k * 5)) x rfl hat ?_)
              go_roundw
              case rel => exact ⟨k + 1, by go_num, by omega, B1, Lib.hid (HPT.out (by rw [HM.out]; simp))⟩
              case measure => simp [intOf]; omega
            · have HM := Lib.hid (show mt p x = true by rw [HMT.out, h1, h2, h3]; rfl)
              go_wp2_with (refine at_load37 (.tmp 13) rfl rfl (y.add (k * 5)) x rfl hat ?_)
              go_ret2
              refine ⟨?_, HB.out.trans (B1.out.mono HB.out.size)⟩
              rw [HPF.out HM.out]; rfl
    · obtain rfl : k = L := by omega
      have HP := Lib.hid (show plc p xs = none by rw [← HF.out, List.take_of_length_le (by rw [HL.out]; exact Nat.le_refl _)])
      go_wp2_with fail
      go_ret2
      refine ⟨?_, HB.out.trans (HW.out.mono HB.out.size)⟩
      rw [HP.out]; rfl
end Go.Proofs.Ytjjbkhelnmdfnaa
