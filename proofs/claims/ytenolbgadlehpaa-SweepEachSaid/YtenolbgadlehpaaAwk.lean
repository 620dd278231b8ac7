/-
  The contracts of the statements' own prefix of a deed, and of their examples. Conditions: bytes are bytes.
-/
import Derived.Test.YtenolbgadlehpaaSem
import Derived.Test.YtenolbgadlehpaaChg
set_option linter.unusedSimpArgs false
set_option linter.unusedVariables false
namespace Go.Proofs.Ytenolbgadlehpaa
open Go.RowKit

/-- A deed's prefix. -/
def bn (x : Ac) : Int := 20 + (x.q + 4) % 256 % 13
def ba (x : Ac) : Int := 167772160 + x.p * 4 - (167772160 + x.p * 4) % p2 (bn x)
set_option maxRecDepth 100000 in
set_option maxHeartbeats 2000000 in
theorem ablock_any (x : Ac) (h : x.Ok) (w : World) : Calls Try.prog 11 #[acv x] w fun e w' => e = .returned (.agg #[.int .u32 (ba x), .int .i64 (bn x)]) ∧ Below w.heap.size w w' := by
  obtain ⟨⟨o0, o1⟩, ⟨p0, p1⟩, ⟨q0, q1⟩⟩ := h
  have HW := Lib.hid (show Below w.heap.size w ((w.alloc (Acx x)).alloc (Bkx 0 0)) from ((Below.refl _ w).alloc (Nat.le_refl _) _).alloc (by simp) _)
  have HBL := Lib.hid fun W => block_any (167772160 + x.p * 4) ((x.q + 4) % 256) W (by omega) (by omega) (by omega) (by omega)
  have hs : w.heap.size + 1 < ((w.alloc (Acx x)).alloc (Bkx 0 0)).heap.size := by simp
  have HR := Lib.hid (show (20 + (x.q + 4) % 256 % 13 = bn x) ∧ (167772160 + x.p * 4 - (167772160 + x.p * 4) % p2 (20 + (x.q + 4) % 256 % 13) = ba x) from ⟨rfl, rfl⟩)
  rw [HR.out.2, HR.out.1] at HBL
  have hm : IntKind.u32.wrap (x.p * 4) = x.p * 4 := by rw [IntKind.wrap_u32]; omega
  have c0 : ((w.alloc (Acx x)).alloc (Bkx 0 0)).cell? ⟨w.heap.size + 1, 0, none⟩ = some (.int .u32 0) := by
    have : (w.alloc (Acx x)).heap.size = w.heap.size + 1 := by simp
    rw [← this]; simp [Bkx]
  have c1 : ((w.alloc (Acx x)).alloc (Bkx 0 0)).cell? ⟨w.heap.size + 1, 1, none⟩ = some (.int .i64 0) := by
    have : (w.alloc (Acx x)).heap.size = w.heap.size + 1 := by simp
    rw [← this]; simp [Bkx]
  have f0 : ∀ j, ((w.alloc (Acx x)).alloc (Bkx 0 0)).frozen? ⟨w.heap.size + 1, j, none⟩ = false := fun j => by
    have : (w.alloc (Acx x)).heap.size = w.heap.size + 1 := by simp
    rw [← this]; simp [Bkx]
  unfold acv Acx Bkx at *
  go_enter Try.func11, Try.ntmps11
  go_wp2_with fail
  generalize (w.alloc (.cells #[.int .u8 x.o, .int .u16 x.p, .int .u8 x.q] 32)).alloc (.cells #[.int .u32 0, .int .i64 0] 36) = W at *
  refine (HBL.out _).mono ?_
  rintro e w1 ⟨rfl, hb⟩
  have d0 : w1.cell? ⟨w.heap.size + 1, 0, none⟩ = some (.int .u32 0) := by rw [hb.cell (p := ⟨w.heap.size + 1, 0, none⟩) hs]; exact c0
  have d1 : w1.cell? ⟨w.heap.size + 1, 1, none⟩ = some (.int .i64 0) := by rw [hb.cell (p := ⟨w.heap.size + 1, 1, none⟩) hs]; exact c1
  have g0 : w1.frozen? ⟨w.heap.size + 1, 0, none⟩ = false := by rw [hb.frozen (p := ⟨w.heap.size + 1, 0, none⟩) hs]; exact f0 0
  have g1 : w1.frozen? ⟨w.heap.size + 1, 1, none⟩ = false := by rw [hb.frozen (p := ⟨w.heap.size + 1, 1, none⟩) hs]; exact f0 1
  have B1 := Lib.hid (HW.out.trans (hb.mono HW.out.size))
  clear hb c0 c1 f0
  go_wp2_with fail
  exact bodyPost_ret (v := .agg #[.int .u32 (ba x), .int .i64 (bn x)]) (by simp [results, Try.results11, go_sem, d0, d1]) rfl ⟨rfl, (B1.out.setCell (p := ⟨w.heap.size + 1, 0, none⟩) (by show w.heap.size ≤ w.heap.size + 1; omega) _).setCell (p := ⟨w.heap.size + 1, 1, none⟩) (by show w.heap.size ≤ w.heap.size + 1; omega) _⟩

def a30 : Sw := ⟨167772160, 30, 2, 0⟩
def a31 : Sw := ⟨167772160, 30, 2, 3⟩
def a32 : Sw := ⟨167772160, 30, 7, 0⟩
theorem awk_put : putC [] 167772160 30 = 0 ∧ putR [] 167772160 30 2 = [a30] := by decide
theorem awk_p1 : planO [a30] 5 2 3 = ([a31], [167772160, 167772161, 167772162]) := by decide
theorem awk_p2 : planO [a31] 5 3 3 = ([a32], [167772163]) := by decide
theorem sv30 : Sv a30 := ⟨by decide, by decide, by decide, by decide, by decide, by decide⟩
theorem sv31 : Sv a31 := ⟨by decide, by decide, by decide, by decide, by decide, by decide⟩
def c5 : Cf := ⟨0, 0, 0, 5, 0, 0, 0, 0, 0⟩
set_option maxRecDepth 100000 in
set_option maxHeartbeats 8000000 in
theorem awake_any (w : World) : Calls Try.prog 9 #[] w fun e w' => e = .returned (.bool true) ∧ Below w.heap.size w w' := by
  have HPU := Lib.hid (put_any 167772160 30 2 none [] 0 w (Rw.nil _ _) (fun x hx => by simp at hx) (by simp) (by simp) (by decide) (by decide))
  rw [awk_put.1, awk_put.2] at HPU
  have HP1 := Lib.hid fun A cap W hR hc => plan_any c5 2 3 A [a30] cap W hR hc (by simp) (fun x hx => by simp at hx; subst hx; exact sv30) (by decide) (by decide)
  have HP2 := Lib.hid fun A cap W hR hc => plan_any c5 3 3 A [a31] cap W hR hc (by simp) (fun x hx => by simp at hx; subst hx; exact sv31) (by decide) (by decide)
  rw [show planO [a30] c5.d 2 3 = ([a31], [167772160, 167772161, 167772162]) from awk_p1] at HP1
  rw [show planO [a31] c5.d 3 3 = ([a32], [167772163]) from awk_p2] at HP2
  simp only [List.length_cons, List.length_nil] at HPU HP1 HP2
  go_enter Try.func9, Try.ntmps9
  go_wp2_with fail
  refine HPU.out.mono ?_
  rintro e w1 ⟨A1, c1, rfl, hc1, -, hR1, hb1⟩
  have B1 := Lib.hid hb1
  have C2 := Lib.hid (cm_box w1 c5)
  have B2 := Lib.hid (hb1.alloc hb1.size (Cfx c5))
  have R2 := Lib.hid (hR1.below ((Below.refl _ w1).alloc (Nat.le_refl _) (Cfx c5)))
  have HC1 := Lib.hid hc1
  clear hb1 hR1 hc1
  go_upto_region 3 with fail
  change Code.wp _ _ _ _ (w1.alloc (Cfx c5))
  generalize w1.alloc (Cfx c5) = W2 at *
  unfold cfv at HP1 HP2
  go_wp2_with (refine at_load27 (.tmp 3) rfl rfl _ c5 rfl C2.out.at ?_)
  refine (HP1.out A1 c1 W2 R2.out HC1.out).mono ?_
  rintro e w3 ⟨A3, c3, Aa, ca, rfl, hc3, hR3, hRa, hb3⟩
  have B3 := Lib.hid (B2.out.trans (hb3.mono B2.out.size))
  have C3 := Lib.hid (C2.out.below hb3)
  have R3 := Lib.hid hR3
  have HC3 := Lib.hid hc3
  clear hb3 hR3 hc3 hRa
  go_wp2_with (refine at_load27 (.tmp 3) rfl rfl _ c5 rfl C3.out.at ?_)
  refine (HP2.out A3 c3 w3 R3.out HC3.out).mono ?_
  rintro e w4 ⟨A4, c4, Ab, cb, rfl, hc4, hR4, hRb, hb4⟩
  have B4 := Lib.hid (B3.out.trans (hb4.mono B3.out.size))
  obtain ⟨y4, rfl⟩ := rw_some hR4 (by simp)
  obtain ⟨yb, rfl⟩ := rw_some hRb (by simp)
  have k0 : w4.cell? yb = some (.int .u32 167772163) := by
    have := hRb.at (q := 0) (x := 167772163) rfl 0 _ rfl
    rw [Addr.add_add, show 0 * eA.N + 0 = 0 from rfl, Addr.add_zero'] at this
    exact this
  obtain ⟨-, f2, f3⟩ := rw_f hR4 (k := 0) (x := a32) rfl
  rw [show 0 * 4 = 0 from rfl, Addr.add_zero'] at f2 f3
  simp only [a32] at f2 f3
  clear hb4 hR4 hRb hc4
  simp only [List.length_cons, List.length_nil]
  go_wp2_with fail
  go_ret
  exact ⟨rfl, B4.out⟩
end Go.Proofs.Ytenolbgadlehpaa
