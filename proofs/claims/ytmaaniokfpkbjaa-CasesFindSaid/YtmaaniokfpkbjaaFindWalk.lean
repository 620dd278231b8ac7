/-
  CasesFind's walk: an address's open case is found. Conditions: what comes in lies in memory, and numbers have their bits.
-/
import Derived.BigGuard
import Derived.Test.YtmaaniokfpkbjaaCho
import Derived.Test.YtmaaniokfpkbjaaMdo
set_option linter.unusedSimpArgs false
set_option linter.unusedVariables false
namespace Go.Proofs.Ytmaaniokfpkbjaa
open Go.RowKit

set_option maxRecDepth 100000 in
set_option maxHeartbeats 8000000 in
theorem casesFind_walk (A : Option Addr) (raw : List Ca) (cr : Nat) (av x : Int) (w : World) (h : Rw eA w A raw) (hcr : raw.length ≤ cr) (hur : ∀ x ∈ raw, 0 ≤ x.a ∧ x.a < 4294967296) (ha0 : 0 ≤ av) (ha1 : av < 256) (hx0 : 0 ≤ x) (hx1 : x < 4294967296) :
    Calls Try.prog 5 #[.slice A raw.length cr, .int .u8 av, .int .u32 x] w fun e w' => e = .returned (.bool true) ∧ Below w.heap.size w w' := by
  have hln := h.1
  have R := Lib.hid h
  have HNR := Lib.hid fun W => near_any av W ha0 ha1
  have HFI := Lib.hid fun b W hR => find_any b A raw cr W hR
  have HOP := Lib.hid fun x W => lopen_any x W
  have HAT := Lib.hid fun k (hk : k < raw.length) => at_of_lt hk
  have HFS := Lib.hid fun b k x => @fnd_step b raw k x
  obtain ⟨nb, hnb⟩ : ∃ q, nr av = q := ⟨_, rfl⟩
  rw [hnb] at HNR
  clear h hur hnb
  obtain ⟨L, hL⟩ : ∃ n, raw.length = n := ⟨_, rfl⟩
  have HL := Lib.hid hL
  rw [hL] at hln hcr HFI HAT ⊢
  clear hL
  go_enter Try.func5, Try.ntmps5
  go_wp2_with fail
  refine (awake_any w).mono ?_
  rintro e W1 ⟨rfl, hb⟩
  have B1 := Lib.hid hb
  clear hb
  go_wp2_with fail
  refine (HNR.out _).mono ?_
  rintro e w1 ⟨rfl, rfl⟩
  have B2 := Lib.hid (B1.out.alloc B1.out.size (.cells #[.int .u32 x, .int .u32 nb] 34))
  have r0 : (W1.alloc (.cells #[.int .u32 x, .int .u32 nb] 34)).cell? ⟨W1.heap.size, 0, none⟩ = some (.int .u32 x) := by simp
  have r1 : (W1.alloc (.cells #[.int .u32 x, .int .u32 nb] 34)).cell? ⟨W1.heap.size, 1, none⟩ = some (.int .u32 nb) := by simp
  have hs2 : W1.heap.size < (W1.alloc (.cells #[.int .u32 x, .int .u32 nb] 34)).heap.size := by simp
  have X0 := Lib.hid r0
  have X1 := Lib.hid r1
  clear r0 r1
  go_wp2_with fail
  generalize W1.alloc (.cells #[.int .u32 x, .int .u32 nb] 34) = W2 at *
  go_loopw [19] (fun i wr => ∃ j : Nat, i = .int .i64 j ∧ j ≤ 2 ∧ Hid (Below W2.heap.size W2 wr)) (fun i _ => 2 - (intOf i).toNat)
  case atStart => exact ⟨0, rfl, by omega, Lib.hid (Below.refl _ _)⟩
  case round =>
    obtain ⟨j, rfl, hj, HW⟩ := hrel
    have hj3 : j = 0 ∨ j = 1 ∨ j = 2 := by omega
    rcases hj3 with rfl | rfl | rfl
    · rw [show ((0 : Nat) : Int) = 0 from rfl]
      have k0 : wr.cell? ⟨W1.heap.size, 0, none⟩ = some (.int .u32 x) := (HW.out.cell (p := ⟨W1.heap.size, 0, none⟩) hs2).trans X0.out
      have R2 := Lib.hid (R.out.below (B2.out.trans (HW.out.mono B2.out.size)))
      have HFB := Lib.hid (HFI.out x)
      have HFT := Lib.hid (HFS.out x)
      have BW := Lib.hid (B2.out.trans (HW.out.mono B2.out.size))
      obtain ⟨wo, rfl⟩ : ∃ wo, wo = wr := ⟨_, rfl⟩
      go_wp2_with fail
      clear k0
      go_loopw [9, 25] (fun f i wr => ∃ k : Nat, i = .int .i64 k ∧ k ≤ L ∧ f = .int .i64 (fnI (fnd x (raw.take k))) ∧ Hid (Below wo.heap.size wo wr)) (fun _ i _ => L - (intOf i).toNat)
      case atStart => exact ⟨0, rfl, by omega, by simp [fnd, fnI], Lib.hid (Below.refl _ _)⟩
      case round =>
        obtain ⟨k, rfl, hk, rfl, HV⟩ := hrel
        by_cases hkL : k < L
        · obtain ⟨z, hz⟩ := HAT.out k hkL
          obtain ⟨y, rfl⟩ := rw_some R2.out (by rw [HL.out]; omega)
          have hat := (R2.out.below HV.out).at hz
          have BB := Lib.hid (show Below wo.heap.size wo (wr.alloc (Cax z)) from HV.out.alloc HV.out.size _)
          have Q1 := Lib.hid (qb_box wr z)
          have HO := Lib.hid (HOP.out z)
          have HFX := Lib.hid (HFT.out k z hz)
          have HFM := Lib.hid (show fm x z = ((z.a == x) && opB z) from rfl)
          have hsz : wr.heap.size < (wr.alloc (Cax z)).heap.size := by simp
          obtain ⟨o, ho⟩ : ∃ o, fnd x (raw.take k) = o := ⟨_, rfl⟩
          obtain ⟨ob, hob⟩ : ∃ q, opB z = q := ⟨_, rfl⟩
          rw [ho] at HFX ⊢
          rw [hob] at HO HFM
          clear hz ho hob
          unfold cav Cax at *
          go_upto_region 10 with (refine at_load37 (.tmp 28) rfl rfl (y.add (k * 4)) z rfl hat ?_)
          generalize wr.alloc (.cells #[.int .u32 z.a, .int .i64 z.r, .int .i64 z.d, .int .i64 z.g] 37) = W at *
          clear hat
          obtain ⟨q0, q1, q2, q3⟩ := Q1.out.c
          cases o with
          | some i =>
            have HV2 := Lib.hid (show fnd x (raw.take (k + 1)) = some i by rw [HFX.out]; rfl)
            have hi0 : decide ((i : Int) < 0) = false := decide_eq_false (by omega)
            dsimp only [fnI]
            go_wp2_with fail
            go_roundw
            case rel => exact ⟨k + 1, by go_num, by omega, by rw [HV2.out]; rfl, BB⟩
            case measure => simp [intOf]; omega
          | none =>
            dsimp only [fnI]
            cases he : (z.a == x)
            · have HE := Lib.hid he
              have HV2 := Lib.hid (show fnd x (raw.take (k + 1)) = none by rw [HFX.out, HFM.out, HE.out]; rfl)
              go_wp2_with fail
              go_roundw
              case rel => exact ⟨k + 1, by go_num, by omega, by rw [HV2.out]; rfl, BB⟩
              case measure => simp [intOf]; omega
            · have HE := Lib.hid he
              go_wp2_with fail
              refine (HO.out _).mono ?_
              rintro e w1 ⟨rfl, hb⟩
              have BC := Lib.hid (BB.out.trans (hb.mono BB.out.size))
              clear hb q0 q1 q2 q3
              cases ob
              · have HV2 := Lib.hid (show fnd x (raw.take (k + 1)) = none by rw [HFX.out, HFM.out, HE.out]; rfl)
                go_wp2_with fail
                go_roundw
                case rel => exact ⟨k + 1, by go_num, by omega, by rw [HV2.out]; rfl, BC⟩
                case measure => simp [intOf]; omega
              · have HV2 := Lib.hid (show fnd x (raw.take (k + 1)) = some k by rw [HFX.out, HFM.out, HE.out]; rfl)
                go_wp2_with fail
                go_roundw
                case rel => exact ⟨k + 1, by go_num, by omega, by rw [HV2.out]; rfl, BC⟩
                case measure => simp [intOf]; omega
        · obtain rfl : k = L := by omega
          have hfull : raw.take k = raw := List.take_of_length_le (by rw [HL.out]; exact Nat.le_refl _)
          rw [hfull]
          have R3 := Lib.hid (R2.out.below HV.out)
          have B3 := Lib.hid (show Below W2.heap.size W2 wr from HW.out.trans (HV.out.mono HW.out.size))
          clear hfull
          obtain ⟨f, hf⟩ : ∃ f, fnI (fnd x raw) = f := ⟨_, rfl⟩
          rw [hf] at HFB ⊢
          clear hf
          have hff : (f != f) = false := by simp
          go_wp2_with fail
          refine (HFB.out wr R3.out).mono ?_
          rintro e w5 ⟨rfl, hb⟩
          have B5 := Lib.hid (B3.out.trans (hb.mono B3.out.size))
          clear hb
          go_wp2_with fail
          go_roundw
          case rel => exact ⟨0 + 1, by go_num, by omega, B5⟩
          case measure => simp [intOf]
    · rw [show ((1 : Nat) : Int) = 1 from rfl]
      have k0 : wr.cell? ⟨W1.heap.size, 1, none⟩ = some (.int .u32 nb) := (HW.out.cell (p := ⟨W1.heap.size, 1, none⟩) hs2).trans X1.out
      have R2 := Lib.hid (R.out.below (B2.out.trans (HW.out.mono B2.out.size)))
      have HFB := Lib.hid (HFI.out nb)
      have HFT := Lib.hid (HFS.out nb)
      have BW := Lib.hid (B2.out.trans (HW.out.mono B2.out.size))
      obtain ⟨wo, rfl⟩ : ∃ wo, wo = wr := ⟨_, rfl⟩
      go_wp2_with fail
      clear k0
      go_loopw [9, 25] (fun f i wr => ∃ k : Nat, i = .int .i64 k ∧ k ≤ L ∧ f = .int .i64 (fnI (fnd nb (raw.take k))) ∧ Hid (Below wo.heap.size wo wr)) (fun _ i _ => L - (intOf i).toNat)
      case atStart => exact ⟨0, rfl, by omega, by simp [fnd, fnI], Lib.hid (Below.refl _ _)⟩
      case round =>
        obtain ⟨k, rfl, hk, rfl, HV⟩ := hrel
        by_cases hkL : k < L
        · obtain ⟨z, hz⟩ := HAT.out k hkL
          obtain ⟨y, rfl⟩ := rw_some R2.out (by rw [HL.out]; omega)
          have hat := (R2.out.below HV.out).at hz
          have BB := Lib.hid (show Below wo.heap.size wo (wr.alloc (Cax z)) from HV.out.alloc HV.out.size _)
          have Q1 := Lib.hid (qb_box wr z)
          have HO := Lib.hid (HOP.out z)
          have HFX := Lib.hid (HFT.out k z hz)
          have HFM := Lib.hid (show fm nb z = ((z.a == nb) && opB z) from rfl)
          have hsz : wr.heap.size < (wr.alloc (Cax z)).heap.size := by simp
          obtain ⟨o, ho⟩ : ∃ o, fnd nb (raw.take k) = o := ⟨_, rfl⟩
          obtain ⟨ob, hob⟩ : ∃ q, opB z = q := ⟨_, rfl⟩
          rw [ho] at HFX ⊢
          rw [hob] at HO HFM
          clear hz ho hob
          unfold cav Cax at *
          go_upto_region 10 with (refine at_load37 (.tmp 28) rfl rfl (y.add (k * 4)) z rfl hat ?_)
          generalize wr.alloc (.cells #[.int .u32 z.a, .int .i64 z.r, .int .i64 z.d, .int .i64 z.g] 37) = W at *
          clear hat
          obtain ⟨q0, q1, q2, q3⟩ := Q1.out.c
          cases o with
          | some i =>
            have HV2 := Lib.hid (show fnd nb (raw.take (k + 1)) = some i by rw [HFX.out]; rfl)
            have hi0 : decide ((i : Int) < 0) = false := decide_eq_false (by omega)
            dsimp only [fnI]
            go_wp2_with fail
            go_roundw
            case rel => exact ⟨k + 1, by go_num, by omega, by rw [HV2.out]; rfl, BB⟩
            case measure => simp [intOf]; omega
          | none =>
            dsimp only [fnI]
            cases he : (z.a == nb)
            · have HE := Lib.hid he
              have HV2 := Lib.hid (show fnd nb (raw.take (k + 1)) = none by rw [HFX.out, HFM.out, HE.out]; rfl)
              go_wp2_with fail
              go_roundw
              case rel => exact ⟨k + 1, by go_num, by omega, by rw [HV2.out]; rfl, BB⟩
              case measure => simp [intOf]; omega
            · have HE := Lib.hid he
              go_wp2_with fail
              refine (HO.out _).mono ?_
              rintro e w1 ⟨rfl, hb⟩
              have BC := Lib.hid (BB.out.trans (hb.mono BB.out.size))
              clear hb q0 q1 q2 q3
              cases ob
              · have HV2 := Lib.hid (show fnd nb (raw.take (k + 1)) = none by rw [HFX.out, HFM.out, HE.out]; rfl)
                go_wp2_with fail
                go_roundw
                case rel => exact ⟨k + 1, by go_num, by omega, by rw [HV2.out]; rfl, BC⟩
                case measure => simp [intOf]; omega
              · have HV2 := Lib.hid (show fnd nb (raw.take (k + 1)) = some k by rw [HFX.out, HFM.out, HE.out]; rfl)
                go_wp2_with fail
                go_roundw
                case rel => exact ⟨k + 1, by go_num, by omega, by rw [HV2.out]; rfl, BC⟩
                case measure => simp [intOf]; omega
        · obtain rfl : k = L := by omega
          have hfull : raw.take k = raw := List.take_of_length_le (by rw [HL.out]; exact Nat.le_refl _)
          rw [hfull]
          have R3 := Lib.hid (R2.out.below HV.out)
          have B3 := Lib.hid (show Below W2.heap.size W2 wr from HW.out.trans (HV.out.mono HW.out.size))
          clear hfull
          obtain ⟨f, hf⟩ : ∃ f, fnI (fnd nb raw) = f := ⟨_, rfl⟩
          rw [hf] at HFB ⊢
          clear hf
          have hff : (f != f) = false := by simp
          go_wp2_with fail
          refine (HFB.out wr R3.out).mono ?_
          rintro e w5 ⟨rfl, hb⟩
          have B5 := Lib.hid (B3.out.trans (hb.mono B3.out.size))
          clear hb
          go_wp2_with fail
          go_roundw
          case rel => exact ⟨1 + 1, by go_num, by omega, B5⟩
          case measure => simp [intOf]
    · go_wp2_with fail
      go_ret
      exact ⟨rfl, B2.out.trans (HW.out.mono B2.out.size)⟩
end Go.Proofs.Ytmaaniokfpkbjaa
