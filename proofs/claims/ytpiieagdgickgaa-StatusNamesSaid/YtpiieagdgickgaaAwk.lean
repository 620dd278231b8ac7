/-
  The contract of the statements' own awake: the document's examples. No condition.
-/
import Derived.Test.YtpiieagdgickgaaCh
set_option linter.unusedSimpArgs false
set_option linter.unusedVariables false
namespace Go.Proofs.Ytpiieagdgickgaa
open Go.RowKit

def ca : Cf := ⟨5, 9, 1, 0, 0, 0, 0, 0, 0⟩
def m2 : Mc := ⟨2, 0, 0, 0, 0, 0⟩
def sa : Sg := ⟨1, ⟨4, 0, 0, 0, 0, 0⟩, 3⟩
def sb : Sg := ⟨0, zm, 3⟩
theorem aw1 : stO ca (some m2) [sa] 4 = 4 := by decide
theorem aw2 : stO ca (some m2) [sb] 20 = 3 := by decide

/-- What awake lays first. -/
def Aw (w : World) : World := (w.alloc (.cells #[.int .i64 5, .int .i64 9, .int .i64 1, .int .i64 0, .int .i64 0, .int .i64 0, .int .i64 0, .int .i64 0, .int .i64 0] 27)).alloc (.cells #[.int .u32 0, .string ⟨#[]⟩, .int .u8 2, .int .u8 0, .int .u8 0, .int .u8 0, .int .u8 0, .int .u8 0] 38)
theorem aw_m (w : World) : Hm (Aw w) (w.heap.size + 1) m2 := by
  have := hm_box (w.alloc (Cfx ca)) 0 (.string ⟨#[]⟩) m2
  rwa [World.size_alloc] at this
theorem aw_c (w : World) : Cm (Aw w) w.heap.size ca := (cm_box w ca).below ((Below.refl _ _).alloc (Nat.le_refl _) (Hx 0 (.string ⟨#[]⟩) m2))
theorem aw_b (w : World) : Below w.heap.size w (Aw w) := ((Below.refl w.heap.size w).alloc (Nat.le_refl _) (Cfx ca)).alloc (by simp) (Hx 0 (.string ⟨#[]⟩) m2)

set_option maxRecDepth 100000 in
set_option maxHeartbeats 4000000 in
theorem awake_any (w : World) : Calls Try.prog 9 #[] w fun e w' => e = .returned (.bool true) ∧ Below w.heap.size w w' := by
  have H1 := Lib.hid fun W b g (hm : Hm W b m2) (hr : Rw eS W (some ⟨g, 0, none⟩) [sa]) => (show Calls Try.prog 13 #[cfv ca, .pointer (some ⟨b, 0, none⟩), .slice (some ⟨g, 0, none⟩) 1 1, .int .i64 4] W fun e w' => e = .returned (.int .i64 4) ∧ Below W.heap.size W w' from
    aw1 ▸ of_some ca b m2 (some ⟨g, 0, none⟩) [sa] 1 4 W hm hr (by simp) (by simp) (by decide))
  have H2 := Lib.hid fun W b g (hm : Hm W b m2) (hr : Rw eS W (some ⟨g, 0, none⟩) [sb]) => (show Calls Try.prog 13 #[cfv ca, .pointer (some ⟨b, 0, none⟩), .slice (some ⟨g, 0, none⟩) 1 1, .int .i64 20] W fun e w' => e = .returned (.int .i64 3) ∧ Below W.heap.size W w' from
    aw2 ▸ of_some ca b m2 (some ⟨g, 0, none⟩) [sb] 1 20 W hm hr (by simp) (by simp) (by decide))
  have HA := Lib.hid fun W => rw_one W sa 48
  have HB := Lib.hid fun W => rw_one W sb 48
  have HN := Lib.hid fun W => name_any 4 W
  have HW := Lib.hid fun W => worth_any 3 W
  rw [show nm 4 = ⟨#[114, 111, 103, 117, 101]⟩ from rfl] at HN
  rw [show wo 3 = 1 from rfl] at HW
  have M0 := Lib.hid (aw_m w)
  have C0 := Lib.hid (aw_c w)
  have B0 := Lib.hid (aw_b w)
  simp only [cfv, ca, sl, sa, sb, zm] at H1 H2 HA HB
  go_enter Try.func9, Try.ntmps9
  go_upto_region 3 with fail
  change (Code.region _ _ _).wp _ _ _ (Aw w)
  generalize Aw w = W0 at *
  have k0 := C0.out.c0
  have k1 := C0.out.c1
  have k2 := C0.out.c2
  have k3 := C0.out.c3
  have k4 := C0.out.c4
  have k5 := C0.out.c5
  have k6 := C0.out.c6
  have k7 := C0.out.c7
  have k8 := C0.out.c8
  dsimp only [ca] at k0 k1 k2 k3 k4 k5 k6 k7 k8
  go_wp2_with fail
  refine (H1.out _ _ _ (M0.out.below ((Below.refl _ W0).alloc (Nat.le_refl _) _)) (HA.out W0)).mono ?_
  rintro e w1 ⟨rfl, hb⟩
  have hA : Below W0.heap.size W0 w1 := ((Below.refl _ W0).alloc (Nat.le_refl _) _).trans (hb.mono (by simp))
  have M1 := Lib.hid (M0.out.below hA)
  have C1 := Lib.hid (C0.out.below hA)
  have B1 := Lib.hid (bthen B0.out hA B0.out.size)
  clear k0 k1 k2 k3 k4 k5 k6 k7 k8 hb hA
  have k0 := C1.out.c0
  have k1 := C1.out.c1
  have k2 := C1.out.c2
  have k3 := C1.out.c3
  have k4 := C1.out.c4
  have k5 := C1.out.c5
  have k6 := C1.out.c6
  have k7 := C1.out.c7
  have k8 := C1.out.c8
  dsimp only [ca] at k0 k1 k2 k3 k4 k5 k6 k7 k8
  go_wp2_with fail
  refine (H2.out _ _ _ (M1.out.below ((Below.refl _ w1).alloc (Nat.le_refl _) _)) (HB.out w1)).mono ?_
  rintro e w2 ⟨rfl, hb⟩
  have hA : Below w1.heap.size w1 w2 := ((Below.refl _ w1).alloc (Nat.le_refl _) _).trans (hb.mono (by simp))
  have B2 := Lib.hid (bthen B1.out hA B1.out.size)
  clear k0 k1 k2 k3 k4 k5 k6 k7 k8 hb hA
  go_wp2_with fail
  refine (HN.out _).mono ?_
  rintro e w3 ⟨rfl, rfl⟩
  go_wp2_with fail
  refine (HW.out _).mono ?_
  rintro e w3 ⟨rfl, rfl⟩
  go_wp2_with fail
  go_ret
  exact ⟨rfl, B2.out⟩
end Go.Proofs.Ytpiieagdgickgaa
