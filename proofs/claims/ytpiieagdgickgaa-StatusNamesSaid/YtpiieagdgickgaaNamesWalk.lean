/-
  StatusNames's walk: it returns true, and nothing that lay in memory is touched. Conditions: the numbers have 8 bits.
-/
import Derived.Test.YtpiieagdgickgaaSem
import Derived.Test.YtpiieagdgickgaaOg
set_option linter.unusedSimpArgs false
set_option linter.unusedVariables false
namespace Go.Proofs.Ytpiieagdgickgaa
open Go.RowKit

theorem nm_out {s : Int} (h : s < 0 ∨ 6 ≤ s) : nm s = ⟨#[45]⟩ ∧ wo s = 0 := by
  constructor
  · unfold nm
    rw [if_neg (by omega), if_neg (by omega), if_neg (by omega), if_neg (by omega), if_neg (by omega), if_neg (by omega)]
  · unfold wo
    rw [if_neg (by omega), if_neg (by omega), if_neg (by omega)]
/-- The words; what they are worth. -/
def Wx : Obj := .cells #[.string ⟨#[102, 114, 101, 101]⟩, .string ⟨#[112, 108, 97, 110, 110, 101, 100]⟩, .string ⟨#[97, 99, 116, 105, 118, 101]⟩, .string ⟨#[115, 116, 97, 108, 101]⟩, .string ⟨#[114, 111, 103, 117, 101]⟩, .string ⟨#[99, 111, 110, 102, 108, 105, 99, 116]⟩] 9
def Ix : Obj := .cells #[.int .i64 0, .int .i64 0, .int .i64 0, .int .i64 1, .int .i64 2, .int .i64 3] 3
def Wm (W : World) (g : Nat) : Prop := g < W.heap.size ∧ ∀ j : Nat, j < 6 → W.cell? ⟨g, j, none⟩ = some (.string (nm j))
def Im (W : World) (g : Nat) : Prop := g < W.heap.size ∧ ∀ j : Nat, j < 6 → W.cell? ⟨g, j, none⟩ = some (.int .i64 (wo j))
theorem wm_box (w : World) : Wm (w.alloc Wx) w.heap.size := by
  refine ⟨by simp, fun j hj => ?_⟩
  rcases (show j = 0 ∨ j = 1 ∨ j = 2 ∨ j = 3 ∨ j = 4 ∨ j = 5 by omega) with rfl | rfl | rfl | rfl | rfl | rfl <;> simp [Wx] <;> rfl
theorem im_box (w : World) : Im (w.alloc Ix) w.heap.size := by
  refine ⟨by simp, fun j hj => ?_⟩
  rcases (show j = 0 ∨ j = 1 ∨ j = 2 ∨ j = 3 ∨ j = 4 ∨ j = 5 by omega) with rfl | rfl | rfl | rfl | rfl | rfl <;> simp [Ix] <;> rfl
theorem Wm.below {W W' : World} {g : Nat} (h : Wm W g) (hb : Below W.heap.size W W') : Wm W' g := ⟨Nat.lt_of_lt_of_le h.1 hb.size, fun j hj => by rw [hb.cell (p := ⟨g, j, none⟩) h.1]; exact h.2 j hj⟩
theorem Im.below {W W' : World} {g : Nat} (h : Im W g) (hb : Below W.heap.size W W') : Im W' g := ⟨Nat.lt_of_lt_of_le h.1 hb.size, fun j hj => by rw [hb.cell (p := ⟨g, j, none⟩) h.1]; exact h.2 j hj⟩
def iF : Value → World → Prop := fun v W => ∃ g, v = .slice (some ⟨g, 0, none⟩) 6 6 ∧ Im W g
def ipF (j : Nat) : Value → World → Prop := fun v W => ∃ g, v = .pointer (some ⟨g, j, none⟩) ∧ Im W g
theorem stable_iF : Stable iF := fun _ _ _ ⟨g, h1, h2⟩ hb => ⟨g, h1, h2.below hb⟩
theorem stable_ipF (j : Nat) : Stable (ipF j) := fun _ _ _ ⟨g, h1, h2⟩ hb => ⟨g, h1, h2.below hb⟩

set_option maxRecDepth 100000 in
set_option maxHeartbeats 8000000 in
theorem statusNames_walk (n m : Int) (w : World) (hn0 : -128 ≤ n) (hn1 : n < 128) (hm0 : -128 ≤ m) (hm1 : m < 128) :
    Calls Try.prog 8 #[.int .i8 n, .int .i8 m] w fun e w' => e = .returned (.bool true) ∧ Below w.heap.size w w' := by
  have HAW := Lib.hid awake_any
  obtain ⟨q, hq⟩ : ∃ q, m.tmod 6 = q := ⟨_, rfl⟩
  have hq0 : -128 ≤ q := by rw [← hq]; have := Int.lt_tmod_of_pos m (show (0 : Int) < 6 by decide); omega
  have hq1 : q < 128 := by rw [← hq]; have := Int.tmod_lt_of_pos m (show (0 : Int) < 6 by decide); omega
  have HNM := Lib.hid name_any
  have HWO := Lib.hid worth_any
  go_enter Try.func8, Try.ntmps8
  go_wp2_with fail
  refine (HAW.out _).mono ?_
  rintro e w1 ⟨rfl, hb⟩
  have B1 := Lib.hid hb
  have WB := Lib.hid (wm_box w1)
  have AB := Lib.hid (show Below w1.heap.size w1 (w1.alloc Wx) from (Below.refl _ _).alloc (Nat.le_refl _) _)
  clear hb HAW
  simp only [Wx] at WB AB
  go_upto_region 4 with fail
  generalize w1.alloc (.cells #[.string ⟨#[102, 114, 101, 101]⟩, .string ⟨#[112, 108, 97, 110, 110, 101, 100]⟩, .string ⟨#[97, 99, 116, 105, 118, 101]⟩, .string ⟨#[115, 116, 97, 108, 101]⟩, .string ⟨#[114, 111, 103, 117, 101]⟩, .string ⟨#[99, 111, 110, 102, 108, 105, 99, 116]⟩] 9) = W2 at *
  have B2 := Lib.hid (B1.out.trans (AB.out.mono B1.out.size))
  clear AB B1
  generalize w1.heap.size = g at *
  go_upto_region 5 with fail
  have hA : Below W2.heap.size W2 (W2.alloc (.cells #[.int .i64 n, .int .i64 q] 3)) := (Below.refl _ _).alloc (Nat.le_refl _) _
  have B3 := Lib.hid (B2.out.trans (hA.mono B2.out.size))
  have W3 := Lib.hid (WB.out.below hA)
  have G3 := Lib.hid (show W2.heap.size < (W2.alloc (.cells #[.int .i64 n, .int .i64 q] 3)).heap.size ∧ (W2.alloc (.cells #[.int .i64 n, .int .i64 q] 3)).cell? ⟨W2.heap.size, 0, none⟩ = some (.int .i64 n) ∧ (W2.alloc (.cells #[.int .i64 n, .int .i64 q] 3)).cell? ⟨W2.heap.size, 1, none⟩ = some (.int .i64 q) by simp)
  clear hA B2 WB hq
  generalize W2.alloc (.cells #[.int .i64 n, .int .i64 q] 3) = W6 at *
  generalize W2.heap.size = g2 at *
  go_loopw [21] (fun i wr => ∃ k : Nat, i = .int .i64 k ∧ k ≤ 2 ∧ Hid (Below W6.heap.size W6 wr)) (fun i _ => 2 - (intOf i).toNat)
  case atStart => exact ⟨0, rfl, by omega, Lib.hid (Below.refl _ _)⟩
  case round =>
    obtain ⟨k, rfl, hk, HH⟩ := hrel
    by_cases hlt : k < 2
    · obtain ⟨t, ht, ht0, ht1⟩ : ∃ t, wr.cell? ⟨g2, k, none⟩ = some (.int .i64 t) ∧ -128 ≤ t ∧ t < 128 := by
        rcases (show k = 0 ∨ k = 1 by omega) with rfl | rfl
        · exact ⟨n, by rw [HH.out.cell (p := ⟨g2, 0, none⟩) G3.out.1]; exact G3.out.2.1, hn0, hn1⟩
        · exact ⟨q, by rw [HH.out.cell (p := ⟨g2, 1, none⟩) G3.out.1]; exact G3.out.2.2, hq0, hq1⟩
      have W7 := Lib.hid (W3.out.below HH.out)
      have E7 := Lib.hid (bthen B3.out HH.out B3.out.size)
      have HN := Lib.hid (HNM.out t)
      have HW := Lib.hid (HWO.out t)
      by_cases hin : 0 ≤ t ∧ t < 6
      · obtain ⟨j, rfl⟩ : ∃ j : Nat, t = (j : Int) := ⟨t.toNat, by omega⟩
        have hj6 : j < 6 := by omega
        have hj6i : (j : Int) < 6 := by omega
        have hj0 : (0 : Int) ≤ j := by omega
        have HJ := Lib.hid hj6
        obtain ⟨NM, hNM⟩ : ∃ NM, nm (j : Int) = NM := ⟨_, rfl⟩
        obtain ⟨WO, hWO⟩ : ∃ WO, wo (j : Int) = WO := ⟨_, rfl⟩
        have HNj := Lib.hid hNM
        have HWj := Lib.hid hWO
        rw [hNM] at HN
        rw [hWO] at HW
        have HIX := Lib.hid im_box
        simp only [Ix] at HIX
        clear hNM hWO
        go_upto_region 10 with fail
        clear ht
        refine wp_region_below [fx (.slice (some ⟨g, 0, none⟩) 6 6), fx (.int .i64 (j : Int)), fx (.pointer (some ⟨g, j, none⟩)), fx (.string NM), iF, fx (.int .i64 (j : Int)), ipF j, fx (.int .i64 WO), fx (.string NM), fx (.int .i64 WO)]
          (by kernel_rfl) (by kernel_rfl) (by kernel_rfl) ?_ ?_ ?_
        · simp only [List.mem_cons, List.not_mem_nil, or_false]
          rintro φ (rfl | rfl | rfl | rfl | rfl | rfl | rfl | rfl | rfl | rfl)
          all_goals first | exact stable_fx _ | exact stable_fr _ _ | exact stable_iF | exact stable_ipF _
        · refine OgSteps.cons ?_ (OgSteps.cons ?_ (OgSteps.cons ?_ (OgSteps.cons ?_ (OgSteps.cons ?_ (OgSteps.cons ?_ (OgSteps.cons ?_ (OgSteps.cons ?_ (OgSteps.cons ?_ (OgSteps.cons ?_ (OgSteps.nil))))))))))
          · refine OgStep.pure ?_ ?_
            · rfl
            intro u W hS hp
            refine ⟨.slice (some ⟨g, 0, none⟩) 6 6, ?_, rfl⟩
            simp only [ogMk, Act.put, List.setIfInBounds_toArray, List.set_cons_zero, List.set_cons_succ, Nat.zero_add, Nat.reduceAdd, List.take_succ_cons, List.take_zero, List.drop_succ_cons, List.drop_zero]
            simp [execOp, Act.eval, go_sem]
          · refine OgStep.pure ?_ ?_
            · rfl
            intro u W hS hp
            refine ⟨.int .i64 (j : Int), ?_, rfl⟩
            simp only [ogMk, Act.put, List.setIfInBounds_toArray, List.set_cons_zero, List.set_cons_succ, Nat.zero_add, Nat.reduceAdd, List.take_succ_cons, List.take_zero, List.drop_succ_cons, List.drop_zero]
            simp [execOp, Act.eval, go_sem]
          · refine OgStep.pure ?_ ?_
            · rfl
            intro u W hS hp
            have h0 : u 0 = .slice (some ⟨g, 0, none⟩) 6 6 := hp ⟨0, .data⟩ (by simp) rfl
            have h1 : u 1 = .int .i64 (j : Int) := hp ⟨1, .data⟩ (by simp) rfl
            have J6 : (j : Int) < 6 := by have := HJ.out; omega
            refine ⟨.pointer (some ⟨g, j, none⟩), ?_, rfl⟩
            simp only [ogMk, Act.put, List.setIfInBounds_toArray, List.set_cons_zero, List.set_cons_succ, Nat.zero_add, Nat.reduceAdd, List.take_succ_cons, List.take_zero, List.drop_succ_cons, List.drop_zero]
            simp [execOp, Act.eval, go_sem, h0, h1, J6]
          · refine OgStep.pure ?_ ?_
            · rfl
            intro u W hS hp
            have h2 : u 2 = .pointer (some ⟨g, j, none⟩) := hp ⟨2, .data⟩ (by simp) rfl
            have R := (W7.out.below hS).2 j HJ.out
            rw [HNj.out] at R
            refine ⟨.string NM, ?_, rfl⟩
            simp only [ogMk, Act.put, List.setIfInBounds_toArray, List.set_cons_zero, List.set_cons_succ, Nat.zero_add, Nat.reduceAdd, List.take_succ_cons, List.take_zero, List.drop_succ_cons, List.drop_zero]
            simp [execOp, Act.eval, go_sem, h2, R]
          · refine OgStep.made ?_ ?_
            · rfl
            intro u W hS hp
            refine ⟨.slice (some ⟨W.heap.size, 0, none⟩) 6 6, _, ?_, (Below.refl _ W).alloc (Nat.le_refl _) (.cells #[.int .i64 0, .int .i64 0, .int .i64 0, .int .i64 1, .int .i64 2, .int .i64 3] 3), ⟨_, rfl, HIX.out W⟩⟩
            simp only [ogMk, Act.put, List.setIfInBounds_toArray, List.set_cons_zero, List.set_cons_succ, Nat.zero_add, Nat.reduceAdd, List.take_succ_cons, List.take_zero, List.drop_succ_cons, List.drop_zero]
            simp [execOp, Act.eval, go_sem]
          · refine OgStep.pure ?_ ?_
            · rfl
            intro u W hS hp
            refine ⟨.int .i64 (j : Int), ?_, rfl⟩
            simp only [ogMk, Act.put, List.setIfInBounds_toArray, List.set_cons_zero, List.set_cons_succ, Nat.zero_add, Nat.reduceAdd, List.take_succ_cons, List.take_zero, List.drop_succ_cons, List.drop_zero]
            simp [execOp, Act.eval, go_sem]
          · refine OgStep.pure ?_ ?_
            · rfl
            intro u W hS hp
            obtain ⟨gi, h4, hI⟩ : iF (u 4) W := hp ⟨4, .data⟩ (by simp) rfl
            have h5 : u 5 = .int .i64 (j : Int) := hp ⟨5, .data⟩ (by simp) rfl
            have J6 : (j : Int) < 6 := by have := HJ.out; omega
            refine ⟨.pointer (some ⟨gi, j, none⟩), ?_, gi, rfl, hI⟩
            simp only [ogMk, Act.put, List.setIfInBounds_toArray, List.set_cons_zero, List.set_cons_succ, Nat.zero_add, Nat.reduceAdd, List.take_succ_cons, List.take_zero, List.drop_succ_cons, List.drop_zero]
            simp [execOp, Act.eval, go_sem, h4, h5, J6]
          · refine OgStep.pure ?_ ?_
            · rfl
            intro u W hS hp
            obtain ⟨gi, h6, hI⟩ : ipF j (u 6) W := hp ⟨6, .data⟩ (by simp) rfl
            have R := hI.2 j HJ.out
            rw [HWj.out] at R
            refine ⟨.int .i64 WO, ?_, rfl⟩
            simp only [ogMk, Act.put, List.setIfInBounds_toArray, List.set_cons_zero, List.set_cons_succ, Nat.zero_add, Nat.reduceAdd, List.take_succ_cons, List.take_zero, List.drop_succ_cons, List.drop_zero]
            simp [execOp, Act.eval, go_sem, h6, R]
          · refine OgStep.pure ?_ ?_
            · rfl
            intro u W hS hp
            have h3 : u 3 = .string NM := hp ⟨3, .data⟩ (by simp) rfl
            refine ⟨.string NM, ?_, rfl⟩
            simp only [ogMk, Act.put, List.setIfInBounds_toArray, List.set_cons_zero, List.set_cons_succ, Nat.zero_add, Nat.reduceAdd, List.take_succ_cons, List.take_zero, List.drop_succ_cons, List.drop_zero]
            simp [execOp, Act.eval, go_sem, h3]
          · refine OgStep.pure ?_ ?_
            · rfl
            intro u W hS hp
            have h7 : u 7 = .int .i64 WO := hp ⟨7, .data⟩ (by simp) rfl
            refine ⟨.int .i64 WO, ?_, rfl⟩
            simp only [ogMk, Act.put, List.setIfInBounds_toArray, List.set_cons_zero, List.set_cons_succ, Nat.zero_add, Nat.reduceAdd, List.take_succ_cons, List.take_zero, List.drop_succ_cons, List.drop_zero]
            simp [execOp, Act.eval, go_sem, h7]
        · intro u W hS hF
          have e0 : u 0 = .slice (some ⟨g, 0, none⟩) 6 6 := hF 0 (by decide)
          have e1 : u 1 = .int .i64 (j : Int) := hF 1 (by decide)
          have e2 : u 2 = .pointer (some ⟨g, j, none⟩) := hF 2 (by decide)
          have e3 : u 3 = .string NM := hF 3 (by decide)
          have e5 : u 5 = .int .i64 (j : Int) := hF 5 (by decide)
          have e7 : u 7 = .int .i64 WO := hF 7 (by decide)
          have e8 : u 8 = .string NM := hF 8 (by decide)
          have e9 : u 9 = .int .i64 WO := hF 9 (by decide)
          simp only [ogMk, Act.put, List.setIfInBounds_toArray, List.set_cons_zero, List.set_cons_succ, Nat.zero_add, Nat.reduceAdd, List.take_succ_cons, List.take_zero, List.drop_succ_cons, List.drop_zero]
          rw [e0, e1, e2, e3, e5, e7, e8, e9]
          clear e0 e1 e2 e3 e5 e7 e8 e9 hF
          have HW8 := Lib.hid (bthen HH.out hS HH.out.size)
          clear hS W7 HIX
          go_wp2_with fail
          refine (HN.out _).mono ?_
          rintro e w3 ⟨rfl, rfl⟩
          go_wp2_with fail
          refine (HW.out _).mono ?_
          rintro e w3 ⟨rfl, rfl⟩
          go_wp2_with fail
          go_roundw
          case rel => exact ⟨k + 1, by go_num, by omega, HW8⟩
          case measure => simp [intOf]; omega
      · have hno := nm_out (s := t) (by omega)
        rw [hno.1] at HN
        rw [hno.2] at HW
        clear hno
        by_cases h0 : 0 ≤ t
        · have h6 : ¬ t < 6 := by omega
          go_wp2_with fail
          refine (HN.out _).mono ?_
          rintro e w3 ⟨rfl, rfl⟩
          go_wp2_with fail
          refine (HW.out _).mono ?_
          rintro e w3 ⟨rfl, rfl⟩
          go_wp2_with fail
          go_roundw
          case rel => exact ⟨k + 1, by go_num, by omega, HH⟩
          case measure => simp [intOf]; omega
        · go_wp2_with fail
          refine (HN.out _).mono ?_
          rintro e w3 ⟨rfl, rfl⟩
          go_wp2_with fail
          refine (HW.out _).mono ?_
          rintro e w3 ⟨rfl, rfl⟩
          go_wp2_with fail
          go_roundw
          case rel => exact ⟨k + 1, by go_num, by omega, HH⟩
          case measure => simp [intOf]; omega
    · obtain rfl : k = 2 := by omega
      go_wp2_with fail
      go_ret
      exact ⟨rfl, bthen B3.out HH.out B3.out.size⟩
end Go.Proofs.Ytpiieagdgickgaa
