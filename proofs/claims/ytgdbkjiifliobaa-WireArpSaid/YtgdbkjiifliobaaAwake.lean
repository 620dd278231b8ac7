/-
  The statements' own awake returns true, and leaves all that was in memory. No condition.
-/
import Derived.Test.YtgdbkjiifliobaaPlain
namespace Go.Proofs.Ytgdbkjiifliobaa
open Go.RowKit

def aw : Pk := ⟨true, 167772161, 167772162, 0, 0, 0, 0, 0, 0, 7, 9⟩
theorem aw_ok : aw.Ok := by constructor <;> decide
theorem aw_rpk : rpk (ecb aw) = aw := by rw [ecb_rpk]; rfl

set_option maxRecDepth 100000 in
theorem awake_any (w : World) : Calls Try.prog 9 #[] w fun e w' => e = .returned (.bool true) ∧ Below w.heap.size w w' := by
  have PB := Lib.hid (pb_box w zp)
  have CE := Lib.hid fun W => echo_any aw W aw_ok
  have CR := Lib.hid fun g W (h : Rd W (some ⟨g, 0, none⟩) (ecb aw)) => aw_rpk ▸ ecb_red aw ▸ readEcho_any (some ⟨g, 0, none⟩) (ecb aw) 32 W h (Nat.le_refl _)
  have B0 := Lib.hid ((Below.refl w.heap.size w).alloc (Nat.le_refl _) (Px zp))
  go_enter Try.func9, Try.ntmps9
  go_upto_region 2 with (refine at_store27 _ _ _ zp aw PB.out rfl rfl rfl rfl ?_; intro w1 P1 B1)
  have D1 := Lib.hid (B0.out.trans (B1.out _ (Nat.le_refl _)))
  clear PB B0 B1
  go_wp2_with (refine at_load27 _ _ aw P1.out.1 rfl rfl rfl ?_)
  refine (CE.out _).mono ?_
  rintro e w2 ⟨rfl, o2, b2⟩
  have P2 := Lib.hid (P1.out.keep b2 P1.out.lt)
  have D2 := Lib.hid (D1.out.trans (b2.mono D1.out.size))
  have O2 := Lib.hid o2
  have hz2 := (o2.block (by omega)).2
  clear o2 b2 P1 D1
  go_wp2_with fail
  refine (CR.out _ _ O2.out.rd).mono ?_
  rintro e w3 ⟨rfl, b3⟩
  have P3 := Lib.hid (P2.out.keep b3 P2.out.lt)
  have D3 := Lib.hid (D2.out.trans (b3.mono D2.out.size))
  clear b3 P2 D2 O2
  have PB := Lib.hid (pb_box w3 zp)
  have P4 := Lib.hid (P3.out.keep ((Below.refl _ w3).alloc (Nat.le_refl _) (Px zp)) P3.out.lt)
  have D4 := Lib.hid (D3.out.alloc D3.out.size (Px zp))
  go_upto_region 4 with (refine at_store27 _ _ _ zp aw PB.out rfl rfl rfl rfl ?_; intro w4 P5 B5)
  have P6 := Lib.hid (P4.out.keep (B5.out _ (Nat.le_refl _)) P3.out.lt)
  have D5 := Lib.hid (D4.out.trans (B5.out _ D3.out.size))
  clear P3 P4 D4 D3 B5 PB
  go_wp2_with (first | (refine at_load27g _ _ aw P5.out.1 (by kernel_rfl) rfl rfl ?_) | (refine at_load27g _ _ aw P6.out.1 (by kernel_rfl) rfl rfl ?_) | (refine at_eql27g _ _ aw aw (by kernel_rfl) rfl rfl rfl ?_; rw [eqp_refl]))
  go_ret
  exact ⟨rfl, D5.out⟩
end Go.Proofs.Ytgdbkjiifliobaa
