/-
  The contract of the statements' own Do. Conditions: the row lies in memory, and has up to 900 cases; bytes are bytes.
-/
import Derived.BigGuard
import Derived.Test.YtmaaniokfpkbjaaSem
set_option linter.unusedSimpArgs false
set_option linter.unusedVariables false
namespace Go.Proofs.Ytmaaniokfpkbjaa
open Go.RowKit

theorem calls_mono {f : FuncId} {args : Array Value} {w : World} {P Q : Ending → World → Prop} (h : Calls Try.prog f args w P) (hq : ∀ e w', P e w' → Q e w') : Calls Try.prog f args w Q := h.mono hq
set_option maxRecDepth 100000 in
set_option maxHeartbeats 8000000 in
theorem do_any (c : Cf) (a : Ac) (now : Int) (A : Option Addr) (xs : List Ca) (cap : Nat) (w : World) (h : Rw eA w A xs) (hc : xs.length ≤ cap) (hx9 : xs.length ≤ 900) (ha : a.Ok) :
    Calls Try.prog 13 #[cfv c, .slice A xs.length cap, acv a, .int .i64 now] w (OutPost w (doO c.i now a xs).1 (doO c.i now a xs).2) := by
  have hln := h.1
  have HB0 := Lib.hid (show Below w.heap.size w ((w.alloc (Cfx c)).alloc (Acx a)) from ((Below.refl _ w).alloc (Nat.le_refl _) _).alloc (by simp) _)
  have C0 := Lib.hid (show Cm ((w.alloc (Cfx c)).alloc (Acx a)) w.heap.size c from (cm_box w c).below ((Below.refl _ _).alloc (Nat.le_refl _) _))
  have A0 := Lib.hid (show Am ((w.alloc (Cfx c)).alloc (Acx a)) (w.heap.size + 1) a by have := am_box (w.alloc (Cfx c)) a; rw [World.size_alloc] at this; exact this)
  have R0 := Lib.hid (h.below HB0.out)
  obtain ⟨o0, o1⟩ := ha.o
  obtain ⟨p0, p1⟩ := ha.p
  have HNR := Lib.hid fun W => near_any a.p W p0 p1
  have HDO := Lib.hid (show doO c.i now a xs = _ by unfold doO; rfl)
  have hs0 : w.heap.size + 1 < ((w.alloc (Cfx c)).alloc (Acx a)).heap.size := by simp
  have h8 : a.o % 8 = 0 ∨ a.o % 8 = 1 ∨ a.o % 8 = 2 ∨ a.o % 8 = 3 ∨ a.o % 8 = 4 ∨ a.o % 8 = 5 ∨ a.o % 8 = 6 ∨ a.o % 8 = 7 := by omega
  unfold cfv Cfx acv Acx at *
  rcases h8 with h8 | h8 | h8 | h8 | h8 | h8 | h8 | h8
  · have HT := Lib.hid (show doO c.i now a xs = rsO c.i now (nr a.p) xs by rw [HDO.out]; simp [h8])
    have e0 : (a.o % 8 == 0) = true := by rw [h8]; rfl
    have HK := Lib.hid fun W hR => raise_any c now (nr a.p) A xs cap W hR hc hx9
    rw [HT.out]
    generalize rsO c.i now (nr a.p) xs = s at *
    obtain ⟨ys, q⟩ := s
    clear h HDO HT h8
    generalize xs.length = L at *
    go_enter Try.func13, Try.ntmps13
    go_upto_region 1 with fail
    generalize (w.alloc (.cells #[.int .i64 c.a, .int .i64 c.b, .int .i64 c.c, .int .i64 c.d, .int .i64 c.e, .int .i64 c.f, .int .i64 c.g, .int .i64 c.h, .int .i64 c.i] 27)).alloc (.cells #[.int .u8 a.o, .int .u8 a.p, .int .u8 a.n] 31) = W0 at *
    obtain ⟨a0, a1, a2⟩ := A0.out.c
    go_wp2_with fail
    refine (HNR.out _).mono ?_
    rintro e w1 ⟨rfl, rfl⟩
    go_wp2_with (refine at_load27 (.tmp 4) rfl rfl _ c rfl C0.out.at ?_)
    refine (HK.out _ R0.out).mono ?_
    rintro e w2 ⟨A1, c1, rfl, hc1, hR, hb⟩
    have HR := Lib.hid hR
    have HBB := Lib.hid (HB0.out.trans (hb.mono HB0.out.size))
    have HC := Lib.hid hc1
    clear hR hb hc1
    dsimp only at *
    go_wp2_with fail
    go_ret2
    exact ⟨A1, c1, rfl, HC.out, HR.out, HBB.out⟩
  · have HT := Lib.hid (show doO c.i now a xs = rsO c.i now (nr a.p) xs by rw [HDO.out]; simp [h8])
    have e0 : (a.o % 8 == 0) = false := by rw [h8]; rfl
    have e1 : (a.o % 8 == 1) = true := by rw [h8]; rfl
    have HK := Lib.hid fun W hR => raise_any c now (nr a.p) A xs cap W hR hc hx9
    rw [HT.out]
    generalize rsO c.i now (nr a.p) xs = s at *
    obtain ⟨ys, q⟩ := s
    clear h HDO HT h8
    generalize xs.length = L at *
    go_enter Try.func13, Try.ntmps13
    go_upto_region 1 with fail
    generalize (w.alloc (.cells #[.int .i64 c.a, .int .i64 c.b, .int .i64 c.c, .int .i64 c.d, .int .i64 c.e, .int .i64 c.f, .int .i64 c.g, .int .i64 c.h, .int .i64 c.i] 27)).alloc (.cells #[.int .u8 a.o, .int .u8 a.p, .int .u8 a.n] 31) = W0 at *
    obtain ⟨a0, a1, a2⟩ := A0.out.c
    go_wp2_with fail
    refine (HNR.out _).mono ?_
    rintro e w1 ⟨rfl, rfl⟩
    go_wp2_with (refine at_load27 (.tmp 4) rfl rfl _ c rfl C0.out.at ?_)
    refine (HK.out _ R0.out).mono ?_
    rintro e w2 ⟨A1, c1, rfl, hc1, hR, hb⟩
    have HR := Lib.hid hR
    have HBB := Lib.hid (HB0.out.trans (hb.mono HB0.out.size))
    have HC := Lib.hid hc1
    clear hR hb hc1
    dsimp only at *
    go_wp2_with fail
    go_ret2
    exact ⟨A1, c1, rfl, HC.out, HR.out, HBB.out⟩
  · have HT := Lib.hid (show doO c.i now a xs = stO (fun g => g == 0) 1 now (nr a.p) xs by rw [HDO.out]; simp [h8])
    have e0 : (a.o % 8 == 0) = false := by rw [h8]; rfl
    have e1 : (a.o % 8 == 1) = false := by rw [h8]; rfl
    have e2 : (a.o % 8 == 2) = true := by rw [h8]; rfl
    have HK := Lib.hid fun W hR => approve_any now (nr a.p) A xs cap W hR hc hx9
    rw [HT.out]
    generalize stO (fun g => g == 0) 1 now (nr a.p) xs = s at *
    obtain ⟨ys, q⟩ := s
    clear h HDO HT h8
    generalize xs.length = L at *
    go_enter Try.func13, Try.ntmps13
    go_upto_region 1 with fail
    generalize (w.alloc (.cells #[.int .i64 c.a, .int .i64 c.b, .int .i64 c.c, .int .i64 c.d, .int .i64 c.e, .int .i64 c.f, .int .i64 c.g, .int .i64 c.h, .int .i64 c.i] 27)).alloc (.cells #[.int .u8 a.o, .int .u8 a.p, .int .u8 a.n] 31) = W0 at *
    obtain ⟨a0, a1, a2⟩ := A0.out.c
    go_wp2_with fail
    refine (HNR.out _).mono ?_
    rintro e w1 ⟨rfl, rfl⟩
    go_wp2_with fail
    refine (HK.out _ R0.out).mono ?_
    rintro e w2 ⟨A1, c1, rfl, hc1, hR, hb⟩
    have HR := Lib.hid hR
    have HBB := Lib.hid (HB0.out.trans (hb.mono HB0.out.size))
    have HC := Lib.hid hc1
    clear hR hb hc1
    dsimp only at *
    go_wp2_with fail
    go_ret2
    exact ⟨A1, c1, rfl, HC.out, HR.out, HBB.out⟩
  · have HT := Lib.hid (show doO c.i now a xs = stO (fun g => g == 0) 2 now (nr a.p) xs by rw [HDO.out]; simp [h8])
    have e0 : (a.o % 8 == 0) = false := by rw [h8]; rfl
    have e1 : (a.o % 8 == 1) = false := by rw [h8]; rfl
    have e2 : (a.o % 8 == 2) = false := by rw [h8]; rfl
    have e3 : (a.o % 8 == 3) = true := by rw [h8]; rfl
    have HK := Lib.hid fun W hR => reject_any now (nr a.p) A xs cap W hR hc hx9
    rw [HT.out]
    generalize stO (fun g => g == 0) 2 now (nr a.p) xs = s at *
    obtain ⟨ys, q⟩ := s
    clear h HDO HT h8
    generalize xs.length = L at *
    go_enter Try.func13, Try.ntmps13
    go_upto_region 1 with fail
    generalize (w.alloc (.cells #[.int .i64 c.a, .int .i64 c.b, .int .i64 c.c, .int .i64 c.d, .int .i64 c.e, .int .i64 c.f, .int .i64 c.g, .int .i64 c.h, .int .i64 c.i] 27)).alloc (.cells #[.int .u8 a.o, .int .u8 a.p, .int .u8 a.n] 31) = W0 at *
    obtain ⟨a0, a1, a2⟩ := A0.out.c
    go_wp2_with fail
    refine (HNR.out _).mono ?_
    rintro e w1 ⟨rfl, rfl⟩
    go_wp2_with fail
    refine (HK.out _ R0.out).mono ?_
    rintro e w2 ⟨A1, c1, rfl, hc1, hR, hb⟩
    have HR := Lib.hid hR
    have HBB := Lib.hid (HB0.out.trans (hb.mono HB0.out.size))
    have HC := Lib.hid hc1
    clear hR hb hc1
    dsimp only at *
    go_wp2_with fail
    go_ret2
    exact ⟨A1, c1, rfl, HC.out, HR.out, HBB.out⟩
  · have HT := Lib.hid (show doO c.i now a xs = stO (fun g => g == 1) 5 now (nr a.p) xs by rw [HDO.out]; simp [h8])
    have e0 : (a.o % 8 == 0) = false := by rw [h8]; rfl
    have e1 : (a.o % 8 == 1) = false := by rw [h8]; rfl
    have e2 : (a.o % 8 == 2) = false := by rw [h8]; rfl
    have e3 : (a.o % 8 == 3) = false := by rw [h8]; rfl
    have e4 : (a.o % 8 == 4) = true := by rw [h8]; rfl
    have HK := Lib.hid fun W hR => done_any now (nr a.p) A xs cap W hR hc hx9
    rw [HT.out]
    generalize stO (fun g => g == 1) 5 now (nr a.p) xs = s at *
    obtain ⟨ys, q⟩ := s
    clear h HDO HT h8
    generalize xs.length = L at *
    go_enter Try.func13, Try.ntmps13
    go_upto_region 1 with fail
    generalize (w.alloc (.cells #[.int .i64 c.a, .int .i64 c.b, .int .i64 c.c, .int .i64 c.d, .int .i64 c.e, .int .i64 c.f, .int .i64 c.g, .int .i64 c.h, .int .i64 c.i] 27)).alloc (.cells #[.int .u8 a.o, .int .u8 a.p, .int .u8 a.n] 31) = W0 at *
    obtain ⟨a0, a1, a2⟩ := A0.out.c
    go_wp2_with fail
    refine (HNR.out _).mono ?_
    rintro e w1 ⟨rfl, rfl⟩
    go_wp2_with fail
    refine (HK.out _ R0.out).mono ?_
    rintro e w2 ⟨A1, c1, rfl, hc1, hR, hb⟩
    have HR := Lib.hid hR
    have HBB := Lib.hid (HB0.out.trans (hb.mono HB0.out.size))
    have HC := Lib.hid hc1
    clear hR hb hc1
    dsimp only at *
    go_wp2_with fail
    go_ret2
    exact ⟨A1, c1, rfl, HC.out, HR.out, HBB.out⟩
  · have HT := Lib.hid (show doO c.i now a xs = stO (fun _ => true) 4 now (nr a.p) xs by rw [HDO.out]; simp [h8])
    have e0 : (a.o % 8 == 0) = false := by rw [h8]; rfl
    have e1 : (a.o % 8 == 1) = false := by rw [h8]; rfl
    have e2 : (a.o % 8 == 2) = false := by rw [h8]; rfl
    have e3 : (a.o % 8 == 3) = false := by rw [h8]; rfl
    have e4 : (a.o % 8 == 4) = false := by rw [h8]; rfl
    have e5 : (a.o % 8 == 5) = true := by rw [h8]; rfl
    have HK := Lib.hid fun W hR => cancel_any now (nr a.p) A xs cap W hR hc hx9
    rw [HT.out]
    generalize stO (fun _ => true) 4 now (nr a.p) xs = s at *
    obtain ⟨ys, q⟩ := s
    clear h HDO HT h8
    generalize xs.length = L at *
    go_enter Try.func13, Try.ntmps13
    go_upto_region 1 with fail
    generalize (w.alloc (.cells #[.int .i64 c.a, .int .i64 c.b, .int .i64 c.c, .int .i64 c.d, .int .i64 c.e, .int .i64 c.f, .int .i64 c.g, .int .i64 c.h, .int .i64 c.i] 27)).alloc (.cells #[.int .u8 a.o, .int .u8 a.p, .int .u8 a.n] 31) = W0 at *
    obtain ⟨a0, a1, a2⟩ := A0.out.c
    go_wp2_with fail
    refine (HNR.out _).mono ?_
    rintro e w1 ⟨rfl, rfl⟩
    go_wp2_with fail
    refine (HK.out _ R0.out).mono ?_
    rintro e w2 ⟨A1, c1, rfl, hc1, hR, hb⟩
    have HR := Lib.hid hR
    have HBB := Lib.hid (HB0.out.trans (hb.mono HB0.out.size))
    have HC := Lib.hid hc1
    clear hR hb hc1
    dsimp only at *
    go_wp2_with fail
    go_ret2
    exact ⟨A1, c1, rfl, HC.out, HR.out, HBB.out⟩
  · have HT := Lib.hid (show doO c.i now a xs = (xs, 0) by rw [HDO.out]; simp [h8])
    have e0 : (a.o % 8 == 0) = false := by rw [h8]; rfl
    have e1 : (a.o % 8 == 1) = false := by rw [h8]; rfl
    have e2 : (a.o % 8 == 2) = false := by rw [h8]; rfl
    have e3 : (a.o % 8 == 3) = false := by rw [h8]; rfl
    have e4 : (a.o % 8 == 4) = false := by rw [h8]; rfl
    have e5 : (a.o % 8 == 5) = false := by rw [h8]; rfl
    rw [HT.out]
    have HL := Lib.hid hc
    clear h HDO HT h8
    obtain ⟨L, hLL⟩ : ∃ L, xs.length = L := ⟨_, rfl⟩
    have HLL := Lib.hid hLL
    rw [hLL] at hln hc hx9 HL ⊢
    clear hLL
    go_enter Try.func13, Try.ntmps13
    go_upto_region 1 with fail
    generalize (w.alloc (.cells #[.int .i64 c.a, .int .i64 c.b, .int .i64 c.c, .int .i64 c.d, .int .i64 c.e, .int .i64 c.f, .int .i64 c.g, .int .i64 c.h, .int .i64 c.i] 27)).alloc (.cells #[.int .u8 a.o, .int .u8 a.p, .int .u8 a.n] 31) = W0 at *
    obtain ⟨a0, a1, a2⟩ := A0.out.c
    go_wp2_with fail
    refine (HNR.out _).mono ?_
    rintro e w1 ⟨rfl, rfl⟩
    go_wp2_with fail
    go_ret2
    refine ⟨A, cap, ?_, ?_, R0.out, HB0.out⟩
    · show Ending.returned (.tuple #[.slice A L cap, .int .i64 0]) = .returned (.tuple #[.slice A xs.length cap, .int .i64 0])
      rw [HLL.out]
    · show xs.length ≤ cap
      rw [HLL.out]
      exact HL.out
  · have HT := Lib.hid (show doO c.i now a xs = (xs, 0) by rw [HDO.out]; simp [h8])
    have e0 : (a.o % 8 == 0) = false := by rw [h8]; rfl
    have e1 : (a.o % 8 == 1) = false := by rw [h8]; rfl
    have e2 : (a.o % 8 == 2) = false := by rw [h8]; rfl
    have e3 : (a.o % 8 == 3) = false := by rw [h8]; rfl
    have e4 : (a.o % 8 == 4) = false := by rw [h8]; rfl
    have e5 : (a.o % 8 == 5) = false := by rw [h8]; rfl
    rw [HT.out]
    have HL := Lib.hid hc
    clear h HDO HT h8
    obtain ⟨L, hLL⟩ : ∃ L, xs.length = L := ⟨_, rfl⟩
    have HLL := Lib.hid hLL
    rw [hLL] at hln hc hx9 HL ⊢
    clear hLL
    go_enter Try.func13, Try.ntmps13
    go_upto_region 1 with fail
    generalize (w.alloc (.cells #[.int .i64 c.a, .int .i64 c.b, .int .i64 c.c, .int .i64 c.d, .int .i64 c.e, .int .i64 c.f, .int .i64 c.g, .int .i64 c.h, .int .i64 c.i] 27)).alloc (.cells #[.int .u8 a.o, .int .u8 a.p, .int .u8 a.n] 31) = W0 at *
    obtain ⟨a0, a1, a2⟩ := A0.out.c
    go_wp2_with fail
    refine (HNR.out _).mono ?_
    rintro e w1 ⟨rfl, rfl⟩
    go_wp2_with fail
    go_ret2
    refine ⟨A, cap, ?_, ?_, R0.out, HB0.out⟩
    · show Ending.returned (.tuple #[.slice A L cap, .int .i64 0]) = .returned (.tuple #[.slice A xs.length cap, .int .i64 0])
      rw [HLL.out]
    · show xs.length ≤ cap
      rw [HLL.out]
      exact HL.out
end Go.Proofs.Ytmaaniokfpkbjaa
