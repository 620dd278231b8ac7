/-
  The contract of cases.spare. Conditions: the row lies in memory.
-/
import Derived.BigGuard
import Derived.Test.YtmaaniokfpkbjaaAny
set_option linter.unusedSimpArgs false
set_option linter.unusedVariables false
namespace Go.Proofs.Ytmaaniokfpkbjaa
open Go.RowKit

/-- The place of the case that makes room, one case more looked at. -/
def sp2 (xs : List Ca) (k : Nat) (x : Ca) : Option Nat → Option Nat
  | none => some k
  | some p => if x.d < (xs.getD p zc).d then some k else some p
def sp1 (q now : Int) (xs : List Ca) (o : Option Nat) (k : Nat) (x : Ca) : Option Nat :=
  if opB x = true then o else if qtB q x now = true then o else sp2 xs k x o
/-- The place of the case that makes room, of the first k cases. -/
def spk (q now : Int) (xs : List Ca) : Nat → Option Nat
  | 0 => none
  | k + 1 => match xs[k]? with
    | some x => sp1 q now xs (spk q now xs k) k x
    | none => spk q now xs k
theorem spk_succ {q now : Int} {xs : List Ca} {k : Nat} {x : Ca} (hx : xs[k]? = some x) : spk q now xs (k + 1) = sp1 q now xs (spk q now xs k) k x := by
  conv => lhs; unfold spk
  rw [hx]
theorem sp1_cases {q now : Int} {xs : List Ca} {o : Option Nat} {k : Nat} {x : Ca} : sp1 q now xs o k x = o ∨ (sp1 q now xs o k x = some k ∧ opB x = false ∧ qtB q x now = false) := by
  unfold sp1
  split
  · exact .inl rfl
  · rename_i h1
    split
    · exact .inl rfl
    · rename_i h2
      have e1 : opB x = false := by simpa using h1
      have e2 : qtB q x now = false := by simpa using h2
      cases o with
      | none => exact .inr ⟨rfl, e1, e2⟩
      | some p =>
        dsimp only [sp2]
        by_cases hd : x.d < (xs.getD p zc).d
        · rw [if_pos hd]; exact .inr ⟨rfl, e1, e2⟩
        · rw [if_neg hd]; exact .inl rfl
/-- What makes room stands there, and nothing hangs on it. -/
theorem spk_at {q now : Int} {xs : List Ca} : ∀ {k p : Nat}, spk q now xs k = some p → ∃ x, xs[p]? = some x ∧ p < k ∧ opB x = false ∧ qtB q x now = false
  | 0, p, h => by cases h
  | k + 1, p, h => by
    cases hx : xs[k]? with
    | none =>
      unfold spk at h
      rw [hx] at h
      obtain ⟨x, h1, h2, h3⟩ := spk_at h
      exact ⟨x, h1, by omega, h3⟩
    | some x =>
      rw [spk_succ hx] at h
      rcases sp1_cases (q := q) (now := now) (xs := xs) (o := spk q now xs k) (k := k) (x := x) with e | ⟨e, e1, e2⟩
      · rw [e] at h
        obtain ⟨x, h1, h2, h3⟩ := spk_at h
        exact ⟨x, h1, by omega, h3⟩
      · rw [e] at h
        obtain rfl := Option.some.inj h
        exact ⟨x, hx, by omega, e1, e2⟩
def spO (q now : Int) (xs : List Ca) : Option Nat := spk q now xs xs.length

set_option maxRecDepth 100000 in
set_option maxHeartbeats 8000000 in
theorem spare_any (c : Cf) (now : Int) (A : Option Addr) (xs : List Ca) (cap : Nat) (w : World) (h : Rw eA w A xs) (hcap : xs.length ≤ cap) :
    Calls Try.prog 36 #[cfv c, .slice A xs.length cap, .int .i64 now] w fun e w' => e = .returned (.int .i64 (fnI (spO c.i now xs))) ∧ Below w.heap.size w w' := by
  have hln := h.1
  have HB := Lib.hid (show Below w.heap.size w (w.alloc (Cfx c)) from (Below.refl _ w).alloc (Nat.le_refl _) _)
  have R := Lib.hid (h.below HB.out)
  have C0 := Lib.hid (cm_box w c)
  have HOP := Lib.hid fun x W => open_any x W
  have HQT := Lib.hid fun x W => quiet_any c x now W
  have HSN := Lib.hid fun k x (hx : xs[k]? = some x) => spk_succ (q := c.i) (now := now) hx
  have HAT := Lib.hid fun k p => @spk_at c.i now xs k p
  have HSO := Lib.hid (show spO c.i now xs = spk c.i now xs xs.length from rfl)
  clear h
  obtain ⟨L, hL⟩ : ∃ L, xs.length = L := ⟨_, rfl⟩
  have HL := Lib.hid hL
  rw [hL] at hln hcap HSO ⊢
  clear hL
  unfold cfv Cfx at *
  go_enter Try.func36, Try.ntmps36
  go_wp2_with fail
  generalize w.alloc (.cells #[.int .i64 c.a, .int .i64 c.b, .int .i64 c.c, .int .i64 c.d, .int .i64 c.e, .int .i64 c.f, .int .i64 c.g, .int .i64 c.h, .int .i64 c.i] 27) = W at *
  go_loopw [7, 12] (fun p i wr => ∃ k : Nat, i = .int .i64 k ∧ k ≤ L ∧ p = .int .i64 (fnI (spk c.i now xs k)) ∧ Hid (Below W.heap.size W wr)) (fun _ i _ => L - (intOf i).toNat)
  case atStart => exact ⟨0, rfl, by omega, rfl, Lib.hid (Below.refl _ _)⟩
  case round =>
    obtain ⟨k, rfl, hk, rfl, HW⟩ := hrel
    by_cases hkL : k < L
    · obtain ⟨x, hx⟩ := at_of_lt (xs := xs) (k := k) (by rw [HL.out]; exact hkL)
      obtain ⟨y, rfl⟩ := rw_some R.out (by rw [HL.out]; omega)
      have hat := (R.out.below HW.out).at hx
      have B1 := Lib.hid (show Below W.heap.size W (wr.alloc (Cax x)) from HW.out.alloc HW.out.size _)
      have Q1 := Lib.hid (qb_box wr x)
      have C1 := Lib.hid (C0.out.below B1.out)
      have HSX := Lib.hid (HSN.out k x hx)
      have HAK := Lib.hid fun p => HAT.out k p
      have HO := Lib.hid (HOP.out x)
      have HQ := Lib.hid (HQT.out x)
      have hsz : wr.heap.size < (wr.alloc (Cax x)).heap.size := by simp
      clear hx
      obtain ⟨o, ho⟩ : ∃ o, spk c.i now xs k = o := ⟨_, rfl⟩
      rw [ho] at HSX HAK ⊢
      clear ho
      have HS1 := Lib.hid (show sp1 c.i now xs o k x = if opB x = true then o else if qtB c.i x now = true then o else sp2 xs k x o from rfl)
      obtain ⟨b1, hb1⟩ : ∃ b, opB x = b := ⟨_, rfl⟩
      obtain ⟨b2, hb2⟩ : ∃ b, qtB c.i x now = b := ⟨_, rfl⟩
      rw [hb1] at HO HS1
      rw [hb2] at HQ HS1
      clear hb1 hb2
      unfold cav Cax at *
      go_upto_region 5 with (refine at_load37 (.tmp 15) rfl rfl (y.add (k * 4)) x rfl hat ?_)
      generalize wr.alloc (.cells #[.int .u32 x.a, .int .i64 x.r, .int .i64 x.d, .int .i64 x.g] 37) = W1 at *
      go_wp2_with (refine at_load37 (.tmp 9) rfl rfl _ x rfl Q1.out.at ?_)
      refine (HO.out _).mono ?_
      rintro e w1 ⟨rfl, hb⟩
      have B2 := Lib.hid (B1.out.trans (hb.mono B1.out.size))
      have Q2 := Lib.hid (Q1.out.below hb)
      have C2 := Lib.hid (C1.out.below hb)
      clear hb Q1 C1 B1
      cases b1
      · go_wp2_with (first | (refine at_load37g (.tmp 9) _ x rfl ?_ rfl Q2.out.at ?_; (with_reducible rfl)) | (refine at_load27g (.tmp 3) _ c rfl ?_ rfl C2.out.at ?_; (with_reducible rfl)))
        refine (HQ.out _).mono ?_
        rintro e w2 ⟨rfl, hb⟩
        have B3 := Lib.hid (B2.out.trans (hb.mono B2.out.size))
        have Q3 := Lib.hid (Q2.out.below hb)
        have R3 := Lib.hid (R.out.below B3.out)
        clear hb Q2 C2 B2
        cases b2
        · obtain ⟨q0, q1, q2, q3⟩ := Q3.out.c
          cases o with
          | none =>
            have HV := Lib.hid (show sp1 c.i now xs none k x = some k by rw [HS1.out]; rfl)
            dsimp only [fnI]
            go_upto_region 6 with fail
            refine wp_region_quiet_lit (by kernel_rfl) (by kernel_rfl) ?_
            repeat (go_big_quiet_step (fail))
            refine wpQuiet_nil ?_
            intro _ hw'
            obtain ⟨nq, hw''⟩ := hw'
            subst hw''
            have B4 := Lib.hid (bdrewN B3.out nq)
            go_wp2_with fail
            go_roundw
            case rel => exact ⟨k + 1, by go_num, by omega, by rw [HSX.out, HV.out]; rfl, B4⟩
            case measure => simp [intOf]; omega
          | some p =>
            obtain ⟨z, hz, hpk, -, -⟩ := HAK.out p rfl
            have hzd : xs.getD p zc = z := by rw [List.getD_eq_getElem?_getD, hz]; rfl
            have HS2 := Lib.hid (show sp1 c.i now xs (some p) k x = if x.d < z.d then some k else some p by rw [HS1.out, ← hzd]; rfl)
            obtain ⟨-, rz, -⟩ := rw_f R3.out hz
            have hpL : p < L := by omega
            have hpc : p < cap := by omega
            have hpn : decide ((p : Int) < 0) = false := decide_eq_false (by omega)
            clear hzd hz
            dsimp only [fnI]
            by_cases hd : x.d < z.d
            · have HV := Lib.hid (show sp1 c.i now xs (some p) k x = some k by rw [HS2.out, if_pos hd])
              go_upto_region 6 with fail
              refine wp_region_quiet_lit (by kernel_rfl) (by kernel_rfl) ?_
              repeat (go_big_quiet_step (fail))
              refine wpQuiet_nil ?_
              intro _ hw'
              obtain ⟨nq, hw''⟩ := hw'
              subst hw''
              have B4 := Lib.hid (bdrewN B3.out nq)
              go_wp2_with fail
              go_roundw
              case rel => exact ⟨k + 1, by go_num, by omega, by rw [HSX.out, HV.out]; rfl, B4⟩
              case measure => simp [intOf]; omega
            · have hd' : decide (x.d < z.d) = false := decide_eq_false hd
              have HV := Lib.hid (show sp1 c.i now xs (some p) k x = some p by rw [HS2.out, if_neg hd])
              go_upto_region 6 with fail
              refine wp_region_quiet_lit (by kernel_rfl) (by kernel_rfl) ?_
              repeat (go_big_quiet_step (fail))
              refine wpQuiet_nil ?_
              intro _ hw'
              obtain ⟨nq, hw''⟩ := hw'
              subst hw''
              have B4 := Lib.hid (bdrewN B3.out nq)
              go_wp2_with fail
              go_roundw
              case rel => exact ⟨k + 1, by go_num, by omega, by rw [HSX.out, HV.out]; rfl, B4⟩
              case measure => simp [intOf]; omega
        · have HV := Lib.hid (show sp1 c.i now xs o k x = o by rw [HS1.out]; rfl)
          go_wp2_with fail
          go_roundw
          case rel => exact ⟨k + 1, by go_num, by omega, by rw [HSX.out, HV.out], B3⟩
          case measure => simp [intOf]; omega
      · have HV := Lib.hid (show sp1 c.i now xs o k x = o by rw [HS1.out]; rfl)
        go_wp2_with fail
        go_roundw
        case rel => exact ⟨k + 1, by go_num, by omega, by rw [HSX.out, HV.out], B2⟩
        case measure => simp [intOf]; omega
    · obtain rfl : k = L := by omega
      go_wp2_with fail
      go_ret
      exact ⟨by rw [HSO.out]; rfl, HB.out.trans (HW.out.mono HB.out.size)⟩
end Go.Proofs.Ytmaaniokfpkbjaa
