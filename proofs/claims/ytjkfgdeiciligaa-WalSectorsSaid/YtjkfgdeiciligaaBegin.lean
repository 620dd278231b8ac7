/-
  The contracts of writeRegion, Begin and Append: what each returns, and what becomes of the disk and of the log. Conditions: a disk and a log are there, fewer than a million calls are counted, the numbers are small.
-/
import Derived.Test.YtjkfgdeiciligaaLog
set_option linter.unusedSimpArgs false
namespace Go.Proofs.Ytjkfgdeiciligaa
open Go.RowKit

/-- The calls of writeRegion. -/
def rop (first size turn : Nat) (zs : List Nat) : List Dop := zop first size ++ (fop (first + 1) 2 0 zs ++ fop first 1 turn [])

theorem Dk.go_stop {M : Dk} {a b : List Dop} (h : (M.go a).1 ≠ 0) : M.go (a ++ b) = M.go a := by rw [Dk.go_append, if_neg h]

set_option maxHeartbeats 2000000 in
set_option maxRecDepth 100000 in
theorem writeRegion_any (p k : Nat) (pv : Value) (M : Dk) (q : Nat) (rv : Value) (L : Lk) (first : Nat) (A : Option Addr) (zs : List Nat) (c : Nat) (w : World) (h : Ds w p k pv M) (hq : Ls w p q rv L (ft p k pv)) (hr : Rd w A zs) (hA : ∀ x, zs ≠ [] → A = some x → ¬ ft p k pv x.block) (hzc : zs.length ≤ c)
    (hs : L.size ≤ 256) (hf : first ≤ 256) (ht : L.turn < 4000000000) (hl : zs.length ≤ 16384) (hc : M.calls + 1000 < 1000000) :
    Calls Try.prog 34 #[.pointer (some ⟨q, 0, none⟩), .int .i64 first, .slice A zs.length c] w (Went w p k pv M (rop first L.size (L.turn + 1) zs)) := by
  have CZ := Lib.hid fun (pv : Value) (M : Dk) w h hc => writeZeros_any p k pv M first (first + L.size) w h (by omega) (by omega) hc
  have CF := Lib.hid fun (pv : Value) (M : Dk) w h hr hA hc => writeFrame_any p k pv M (first + 1) 2 0 A zs c w h hr hA hzc (by omega) hl (by omega) hc
  have CR := Lib.hid fun (pv : Value) (M : Dk) w h hc => writeFrame_any p k pv M first 1 (L.turn + 1) none [] 0 w h (Rd.nil _ _) (fun x hx => (hx rfl).elim) (by simp) (by omega) (by simp) (by omega) hc
  rw [show first + L.size - first = L.size by omega] at CZ
  have c0 : w.cell? ⟨q, 0, none⟩ = some (.pointer (some ⟨p, 0, none⟩)) := hq.cell 0
  have c1 : w.cell? ⟨q, 1, none⟩ = some (.int .i64 (L.size : Int)) := hq.cell 1
  have H := Lib.hid h.drew
  have HQ := Lib.hid (show Ls w.drew p q rv L (ft p k pv) from hq.below (Below.refl _ w).drew)
  have HR := Lib.hid hr.drew
  have HA := Lib.hid hA
  have S0 := Lib.hid (Step.refl w (ft p k pv)).drew
  clear h hq hr hA
  have EW : IntKind.i64.wrap ((first : Int) + (L.size : Int)) = ((first + L.size : Nat) : Int) := by
    rw [show (first : Int) + (L.size : Int) = ((first + L.size : Nat) : Int) by omega]
    exact Lib.wrap_i64_small _ (by omega)
  have ET : IntKind.i64.wrap ((L.turn : Int) + 1) = ((L.turn + 1 : Nat) : Int) := by
    rw [show (L.turn : Int) + 1 = ((L.turn + 1 : Nat) : Int) by omega]
    exact Lib.wrap_i64_small _ (by omega)
  have EQ : Hid (M.go (rop first L.size (L.turn + 1) zs) = M.go (zop first L.size ++ (fop (first + 1) 2 0 zs ++ fop first 1 (L.turn + 1) []))) := rfl
  go_enter Try.func34, Try.ntmps34
  go_upto_region 1 with fail
  go_still_tail 11, (by kernel_rfl)
  change wpList _ _ _ _ _ w.drew
  clear c0 c1
  generalize w.drew = w1 at *
  go_wp2_with fail
  refine (CZ.out _ _ _ H.out (by omega)).mono ?_
  rintro e w2 ⟨rfl, pv2, h2, s2⟩
  have H2 := Lib.hid h2
  have S2 := Lib.hid (S0.out.trans s2)
  have HQ2 := Lib.hid (HQ.out.step s2)
  have HR2 := Lib.hid (HR.out.step s2 HA.out)
  have HA2 : Hid (∀ x, zs ≠ [] → A = some x → ¬ ft p k pv2 x.block) := fun x hz hx hf => by
    rcases s2.foot _ hf with e | e
    · exact HA.out x hz hx e
    · obtain ⟨y, hy, hc⟩ := HR.out.2.2 0 (List.length_pos_iff.2 hz)
      rw [hx] at hy
      injection hy with hy
      subst hy
      have := World.block_lt_of_cell? _ _ hc
      rw [show (x.add 0).block = x.block by unfold Addr.add; rw [if_pos rfl]] at this
      omega
  clear h2 s2 H S0 HQ HR HA
  have hcc := M.go_calls (zop first L.size)
  rw [show (zop first L.size).length = L.size + 1 by simp [zop]] at hcc
  by_cases he : (M.go (zop first L.size)).1 = 0
  · rw [Dk.go_ok he] at EQ
    rw [he]
    clear he
    generalize (M.go (zop first L.size)).2 = M2 at *
    have c0 : w2.cell? ⟨q, 0, none⟩ = some (.pointer (some ⟨p, 0, none⟩)) := HQ2.out.cell 0
    go_wp2_with fail
    clear c0
    refine (CF.out _ _ _ H2.out HR2.out HA2.out (by omega)).mono ?_
    rintro e w3 ⟨rfl, pv3, h3, s3⟩
    have H3 := Lib.hid h3.drew
    have S3 := Lib.hid (S2.out.trans s3).drew
    have HQ3 := Lib.hid (HQ2.out.step s3)
    clear h3 s3 H2 S2 HQ2 HR2 HA2
    have hcd := M2.go_calls (fop (first + 1) 2 0 zs)
    rw [show (fop (first + 1) 2 0 zs).length = (zs.length + 63) / 64 + 3 by simp [fop]] at hcd
    by_cases he : (M2.go (fop (first + 1) 2 0 zs)).1 = 0
    · rw [Dk.go_ok he] at EQ
      rw [he]
      clear he
      generalize (M2.go (fop (first + 1) 2 0 zs)).2 = M3 at *
      have c0 : w3.cell? ⟨q, 0, none⟩ = some (.pointer (some ⟨p, 0, none⟩)) := HQ3.out.cell 0
      have c3 : w3.cell? ⟨q, 3, none⟩ = some (.int .i64 (L.turn : Int)) := HQ3.out.cell 3
      go_upto_region 7 with fail
      go_still_tail 10, (by kernel_rfl)
      change wpList _ _ _ _ _ w3.drew
      clear c0 c3 HQ3
      generalize w3.drew = w4 at *
      go_wp2_with fail
      refine (CR.out _ _ _ H3.out (by omega)).mono ?_
      rintro e w5 ⟨rfl, pv5, h5, s5⟩
      go_wp2_with fail
      go_ret
      unfold Went
      rw [EQ.out]
      exact ⟨rfl, pv5, h5, S3.out.trans s5⟩
    · rw [Dk.go_stop he] at EQ
      obtain ⟨er, her⟩ : ∃ er, er = (M2.go (fop (first + 1) 2 0 zs)).1 := ⟨_, rfl⟩
      rw [← her] at he ⊢
      have HER := Lib.hid her
      clear her
      have S3' := Lib.hid (show Step w w3 (ft p k pv) (ft p k pv3) from ⟨S3.out.os, S3.out.tape, S3.out.output, S3.out.size, S3.out.block, S3.out.foot⟩)
      have H3' := Lib.hid (show Ds w3 p k pv3 _ from H3.out.of_blocks rfl rfl (fun _ _ => rfl))
      clear H3 S3 HQ3
      go_wp2_with fail
      go_ret
      unfold Went
      rw [EQ.out]
      exact ⟨by rw [HER.out]; rfl, pv3, H3'.out, S3'.out⟩
  · rw [Dk.go_stop he] at EQ
    obtain ⟨er, her⟩ : ∃ er, er = (M.go (zop first L.size)).1 := ⟨_, rfl⟩
    rw [← her] at he ⊢
    have HER := Lib.hid her
    clear her
    go_wp2_with fail
    go_ret
    unfold Went
    rw [EQ.out]
    exact ⟨by rw [HER.out]; rfl, pv2, H2.out, S2.out⟩
end Go.Proofs.Ytjkfgdeiciligaa
