/-
  The contract of the statements' own 'neighbour': what lines.Neighbour gives, with a number for what is wrong. No condition but that texts are ones that a process can hold.
-/
import Derived.Test.YthpgmlijfcfddaaGreatDoorSl
import Derived.Test.YthpgmlijfcfddaaGreatDoorSp
set_option linter.unusedSimpArgs false
set_option linter.unusedVariables false
namespace Go.Proofs.YthpgmlijfcfddaaGreatDoor
open Go.RowKit

theorem nbl_long (s : ByteArray) (w : World) (hs : 200 < s.size) (hm : s.size ≤ maxLen) :
    Calls Tryz.prog 9 #[.string s] w (LPost w zr 1) := by
  unfold maxLen at hm
  go_enter Tryz.func9, Tryz.ntmps9
  go_wp2_with fail
  exact bodyPost_ret (v := .tuple #[rv zr, .int .i64 1]) (by simp [results, Tryz.results9, go_sem, rv, zr]) rfl ⟨rfl, (Below.refl _ w).alloc (Nat.le_refl _) _⟩
theorem nbl_count (s : ByteArray) (w : World) (hs : s.size ≤ 200) (hw : (wl s.data.toList).length ≠ 4) :
    Calls Tryz.prog 9 #[.string s] w (LPost w zr 1) := by
  have HS := Lib.hid fun W => spl_any s W hs
  generalize wl s.data.toList = L at *
  have e1 : ((L.length : Int) != 4) = true := by simp; omega
  obtain ⟨n, hn⟩ : ∃ n, L.length = n := ⟨_, rfl⟩
  rw [hn] at HS e1
  clear hw hn
  go_enter Tryz.func9, Tryz.ntmps9
  go_wp2_with fail
  refine (HS.out _).mono ?_
  rintro e w1 ⟨⟨g, cap, rfl, hg, hW⟩, hb⟩
  have HB := Lib.hid (((Below.refl _ w).alloc (Nat.le_refl _) _).trans (hb.mono (by simp)))
  obtain ⟨hc1, hf1⟩ := bcell hb
  have hz1 : w.heap.size < w1.heap.size := by have := hb.size; simp at this; omega
  clear hb hW hg
  go_wp2_with fail
  exact bodyPost_ret (v := .tuple #[rv zr, .int .i64 1]) (by simp [results, Tryz.results9, go_sem, hc1, hf1, hz1, rv, zr]) rfl ⟨rfl, by with_reducible exact set8 HB.out (Nat.le_refl _) _ _ _ _ _ _ _ _⟩

/-- What 'split' gives of a line of four words. -/
def Sp4 (X0 X1 X2 X3 : ByteArray) (W : World) (e : Ending) (w' : World) : Prop := ∃ g cap, e = .returned (.slice (some ⟨g, 0, none⟩) 4 cap) ∧ W.heap.size ≤ g ∧ 4 ≤ cap ∧ (w'.cell? ⟨g, 0, none⟩ = some (.string X0) ∧ w'.cell? ⟨g, 1, none⟩ = some (.string X1) ∧ w'.cell? ⟨g, 2, none⟩ = some (.string X2) ∧ w'.cell? ⟨g, 3, none⟩ = some (.string X3)) ∧ Below W.heap.size W w'
theorem sp4 (s : ByteArray) (W : World) (hs : s.size ≤ 200) (x0 x1 x2 x3 : List UInt8) (hw : wl s.data.toList = [x0, x1, x2, x3]) :
    Calls Tryz.prog 22 #[.string s] W (Sp4 ⟨x0.toArray⟩ ⟨x1.toArray⟩ ⟨x2.toArray⟩ ⟨x3.toArray⟩ W) := by
  have h := spl_any s W hs
  rw [hw] at h
  refine h.mono fun e w' hh => ?_
  obtain ⟨⟨g, cap, he, hg, hW⟩, hb⟩ := hh
  have hW' : w'.ownsRow W.heap.size 9 1 (.slice (some ⟨g, 0, none⟩) 4 cap) 4 ([x0, x1, x2, x3].map sv) := hW
  refine ⟨g, cap, he, hg, ?_, ⟨hW'.cellAt 0 (by omega), hW'.cellAt 1 (by omega), hW'.cellAt 2 (by omega), hW'.cellAt 3 (by omega)⟩, hb⟩
  rcases hW'.2 with ⟨h', _⟩ | ⟨g', cap', cur, h', _, _, hle, _⟩
  · simp at h'
  · simp only [Value.slice.injEq, Option.some.injEq, Addr.mk.injEq, and_true, true_and] at h'
    obtain ⟨_, rfl⟩ := h'
    exact hle

set_option maxHeartbeats 4000000 in
theorem nbl_four (s : ByteArray) (w : World) (X0 X1 X2 X3 : ByteArray) (hs : s.size ≤ 200) (hx : X0.size ≤ maxLen) (h : ∀ W, Calls Tryz.prog 22 #[.string s] W (Sp4 X0 X1 X2 X3 W)) :
    Calls Tryz.prog 9 #[.string s] w (LPost w (nb4 X0 X1 X2 X3).1 (nb4 X0 X1 X2 X3).2) := by
  have HS := Lib.hid h
  have HT := Lib.hid fun W => stl_any X0 X2 W hx
  clear h hx
  obtain ⟨R, hR⟩ : ∃ R, nb4 X0 X1 X2 X3 = R := ⟨_, rfl⟩
  rw [hR]
  unfold nb4 at hR
  generalize stO X0 X2 = S at *
  obtain ⟨⟨a, m0, m1, m2, m3, m4, m5, u⟩, n⟩ := S
  generalize h1 : (X1.toList == [108, 108, 97, 100, 100, 114]) = T1 at hR
  generalize h2 : (X3.toList == [70, 65, 73, 76, 69, 68]) = T2 at hR
  generalize h3 : (X3.toList == [73, 78, 67, 79, 77, 80, 76, 69, 84, 69]) = T3 at hR
  generalize h4 : (X3.toList == [82, 69, 65, 67, 72, 65, 66, 76, 69]) = T4 at hR
  generalize h5 : (X3.toList == [83, 84, 65, 76, 69]) = T5 at hR
  generalize h6 : (X3.toList == [68, 69, 76, 65, 89]) = T6 at hR
  have HR := Lib.hid hR
  clear hR
  go_enter Tryz.func9, Tryz.ntmps9
  go_wp2_with fail
  refine (HS.out _).mono ?_
  rintro e w1 ⟨g, cap, rfl, hg, hcap, ⟨j0, j1, j2, j3⟩, hb⟩
  have HB := Lib.hid (((Below.refl _ w).alloc (Nat.le_refl _) _).trans (hb.mono (by simp)))
  have k0 : w1.cell? ⟨w.heap.size, 0, none⟩ = some (.int .u32 0) := by rw [hb.cell (p := ⟨w.heap.size, 0, none⟩) (by simp)]; simp
  have k1 : w1.cell? ⟨w.heap.size, 1, none⟩ = some (.int .u8 0) := by rw [hb.cell (p := ⟨w.heap.size, 1, none⟩) (by simp)]; simp
  have k2 : w1.cell? ⟨w.heap.size, 2, none⟩ = some (.int .u8 0) := by rw [hb.cell (p := ⟨w.heap.size, 2, none⟩) (by simp)]; simp
  have k3 : w1.cell? ⟨w.heap.size, 3, none⟩ = some (.int .u8 0) := by rw [hb.cell (p := ⟨w.heap.size, 3, none⟩) (by simp)]; simp
  have k4 : w1.cell? ⟨w.heap.size, 4, none⟩ = some (.int .u8 0) := by rw [hb.cell (p := ⟨w.heap.size, 4, none⟩) (by simp)]; simp
  have k5 : w1.cell? ⟨w.heap.size, 5, none⟩ = some (.int .u8 0) := by rw [hb.cell (p := ⟨w.heap.size, 5, none⟩) (by simp)]; simp
  have k6 : w1.cell? ⟨w.heap.size, 6, none⟩ = some (.int .u8 0) := by rw [hb.cell (p := ⟨w.heap.size, 6, none⟩) (by simp)]; simp
  have k7 : w1.cell? ⟨w.heap.size, 7, none⟩ = some (.int .i64 0) := by rw [hb.cell (p := ⟨w.heap.size, 7, none⟩) (by simp)]; simp
  have g0 : ∀ k, w1.frozen? ⟨w.heap.size, k, none⟩ = false := fun k => by rw [hb.frozen (p := ⟨w.heap.size, k, none⟩) (by simp)]; simp
  have hz1 : w.heap.size < w1.heap.size := by have := hb.size; simp at this; omega
  have hgn : w.heap.size ≠ g := by simp at hg; omega
  clear hb hg
  cases T1
  · go_wp2_with fail
    obtain rfl : R = (zr, 1) := HR.out.symm
    exact bodyPost_ret (v := .tuple #[rv zr, .int .i64 1]) (by simp [results, Tryz.results9, go_sem, k0, k1, k2, k3, k4, k5, k6, k7, g0, hz1, rv, zr]) rfl ⟨rfl, by with_reducible exact set8 HB.out (Nat.le_refl _) _ _ _ _ _ _ _ _⟩
  · cases T2
    · cases T3
      · cases T4
        · cases T5
          · cases T6
            · go_wp2_with fail
              obtain rfl : R = (zr, 1) := HR.out.symm
              exact bodyPost_ret (v := .tuple #[rv zr, .int .i64 1]) (by simp [results, Tryz.results9, go_sem, k0, k1, k2, k3, k4, k5, k6, k7, g0, hz1, rv, zr]) rfl ⟨rfl, by with_reducible exact set8 HB.out (Nat.le_refl _) _ _ _ _ _ _ _ _⟩
            · go_wp2_with fail
              obtain rfl : R = (⟨a, m0, m1, m2, m3, m4, m5, u⟩, n) := HR.out.symm
              go_region_with (go_at_call 23; refine (HT.out _).mono ?_; rintro e w2 ⟨rfl, hb⟩; simp only [rv]; have HB2 := Lib.hid (HB.out.drew.trans (hb.mono (by simp; omega))); have e0 : w2.cell? ⟨w.heap.size, 0, none⟩ = some (.int .u32 0) := (by rw [hb.cell (p := ⟨w.heap.size, 0, none⟩) (by simpa using hz1)]; simpa using k0); have e1 : w2.cell? ⟨w.heap.size, 1, none⟩ = some (.int .u8 0) := (by rw [hb.cell (p := ⟨w.heap.size, 1, none⟩) (by simpa using hz1)]; simpa using k1); have e2 : w2.cell? ⟨w.heap.size, 2, none⟩ = some (.int .u8 0) := (by rw [hb.cell (p := ⟨w.heap.size, 2, none⟩) (by simpa using hz1)]; simpa using k2); have e3 : w2.cell? ⟨w.heap.size, 3, none⟩ = some (.int .u8 0) := (by rw [hb.cell (p := ⟨w.heap.size, 3, none⟩) (by simpa using hz1)]; simpa using k3); have e4 : w2.cell? ⟨w.heap.size, 4, none⟩ = some (.int .u8 0) := (by rw [hb.cell (p := ⟨w.heap.size, 4, none⟩) (by simpa using hz1)]; simpa using k4); have e5 : w2.cell? ⟨w.heap.size, 5, none⟩ = some (.int .u8 0) := (by rw [hb.cell (p := ⟨w.heap.size, 5, none⟩) (by simpa using hz1)]; simpa using k5); have e6 : w2.cell? ⟨w.heap.size, 6, none⟩ = some (.int .u8 0) := (by rw [hb.cell (p := ⟨w.heap.size, 6, none⟩) (by simpa using hz1)]; simpa using k6); have e7 : w2.cell? ⟨w.heap.size, 7, none⟩ = some (.int .i64 0) := (by rw [hb.cell (p := ⟨w.heap.size, 7, none⟩) (by simpa using hz1)]; simpa using k7); have f2 : ∀ k, w2.frozen? ⟨w.heap.size, k, none⟩ = false := (fun k => by rw [hb.frozen (p := ⟨w.heap.size, k, none⟩) (by simpa using hz1)]; simpa using g0 k); have hz2 : w.heap.size < w2.heap.size := (by have := hb.size; simp at this; omega); clear hb)
              all_goals
                go_wp2_with fail
                exact bodyPost_ret (v := .tuple #[rv ⟨a, m0, m1, m2, m3, m4, m5, u⟩, .int .i64 n]) (by simp [results, Tryz.results9, go_sem, e0, e1, e2, e3, e4, e5, e6, e7, hz2, rv]) rfl ⟨rfl, set8 HB2.out (Nat.le_refl _) _ _ _ _ _ _ _ _⟩
          · go_wp2_with fail
            obtain rfl : R = (⟨a, m0, m1, m2, m3, m4, m5, u⟩, n) := HR.out.symm
            go_region_with (go_at_call 23; refine (HT.out _).mono ?_; rintro e w2 ⟨rfl, hb⟩; simp only [rv]; have HB2 := Lib.hid (HB.out.drew.trans (hb.mono (by simp; omega))); have e0 : w2.cell? ⟨w.heap.size, 0, none⟩ = some (.int .u32 0) := (by rw [hb.cell (p := ⟨w.heap.size, 0, none⟩) (by simpa using hz1)]; simpa using k0); have e1 : w2.cell? ⟨w.heap.size, 1, none⟩ = some (.int .u8 0) := (by rw [hb.cell (p := ⟨w.heap.size, 1, none⟩) (by simpa using hz1)]; simpa using k1); have e2 : w2.cell? ⟨w.heap.size, 2, none⟩ = some (.int .u8 0) := (by rw [hb.cell (p := ⟨w.heap.size, 2, none⟩) (by simpa using hz1)]; simpa using k2); have e3 : w2.cell? ⟨w.heap.size, 3, none⟩ = some (.int .u8 0) := (by rw [hb.cell (p := ⟨w.heap.size, 3, none⟩) (by simpa using hz1)]; simpa using k3); have e4 : w2.cell? ⟨w.heap.size, 4, none⟩ = some (.int .u8 0) := (by rw [hb.cell (p := ⟨w.heap.size, 4, none⟩) (by simpa using hz1)]; simpa using k4); have e5 : w2.cell? ⟨w.heap.size, 5, none⟩ = some (.int .u8 0) := (by rw [hb.cell (p := ⟨w.heap.size, 5, none⟩) (by simpa using hz1)]; simpa using k5); have e6 : w2.cell? ⟨w.heap.size, 6, none⟩ = some (.int .u8 0) := (by rw [hb.cell (p := ⟨w.heap.size, 6, none⟩) (by simpa using hz1)]; simpa using k6); have e7 : w2.cell? ⟨w.heap.size, 7, none⟩ = some (.int .i64 0) := (by rw [hb.cell (p := ⟨w.heap.size, 7, none⟩) (by simpa using hz1)]; simpa using k7); have f2 : ∀ k, w2.frozen? ⟨w.heap.size, k, none⟩ = false := (fun k => by rw [hb.frozen (p := ⟨w.heap.size, k, none⟩) (by simpa using hz1)]; simpa using g0 k); have hz2 : w.heap.size < w2.heap.size := (by have := hb.size; simp at this; omega); clear hb)
            all_goals
              go_wp2_with fail
              exact bodyPost_ret (v := .tuple #[rv ⟨a, m0, m1, m2, m3, m4, m5, u⟩, .int .i64 n]) (by simp [results, Tryz.results9, go_sem, e0, e1, e2, e3, e4, e5, e6, e7, hz2, rv]) rfl ⟨rfl, set8 HB2.out (Nat.le_refl _) _ _ _ _ _ _ _ _⟩
        · go_wp2_with fail
          obtain rfl : R = (⟨a, m0, m1, m2, m3, m4, m5, u⟩, n) := HR.out.symm
          go_region_with (go_at_call 23; refine (HT.out _).mono ?_; rintro e w2 ⟨rfl, hb⟩; simp only [rv]; have HB2 := Lib.hid (HB.out.drew.trans (hb.mono (by simp; omega))); have e0 : w2.cell? ⟨w.heap.size, 0, none⟩ = some (.int .u32 0) := (by rw [hb.cell (p := ⟨w.heap.size, 0, none⟩) (by simpa using hz1)]; simpa using k0); have e1 : w2.cell? ⟨w.heap.size, 1, none⟩ = some (.int .u8 0) := (by rw [hb.cell (p := ⟨w.heap.size, 1, none⟩) (by simpa using hz1)]; simpa using k1); have e2 : w2.cell? ⟨w.heap.size, 2, none⟩ = some (.int .u8 0) := (by rw [hb.cell (p := ⟨w.heap.size, 2, none⟩) (by simpa using hz1)]; simpa using k2); have e3 : w2.cell? ⟨w.heap.size, 3, none⟩ = some (.int .u8 0) := (by rw [hb.cell (p := ⟨w.heap.size, 3, none⟩) (by simpa using hz1)]; simpa using k3); have e4 : w2.cell? ⟨w.heap.size, 4, none⟩ = some (.int .u8 0) := (by rw [hb.cell (p := ⟨w.heap.size, 4, none⟩) (by simpa using hz1)]; simpa using k4); have e5 : w2.cell? ⟨w.heap.size, 5, none⟩ = some (.int .u8 0) := (by rw [hb.cell (p := ⟨w.heap.size, 5, none⟩) (by simpa using hz1)]; simpa using k5); have e6 : w2.cell? ⟨w.heap.size, 6, none⟩ = some (.int .u8 0) := (by rw [hb.cell (p := ⟨w.heap.size, 6, none⟩) (by simpa using hz1)]; simpa using k6); have e7 : w2.cell? ⟨w.heap.size, 7, none⟩ = some (.int .i64 0) := (by rw [hb.cell (p := ⟨w.heap.size, 7, none⟩) (by simpa using hz1)]; simpa using k7); have f2 : ∀ k, w2.frozen? ⟨w.heap.size, k, none⟩ = false := (fun k => by rw [hb.frozen (p := ⟨w.heap.size, k, none⟩) (by simpa using hz1)]; simpa using g0 k); have hz2 : w.heap.size < w2.heap.size := (by have := hb.size; simp at this; omega); clear hb)
          all_goals
            go_wp2_with fail
            exact bodyPost_ret (v := .tuple #[rv ⟨a, m0, m1, m2, m3, m4, m5, u⟩, .int .i64 n]) (by simp [results, Tryz.results9, go_sem, e0, e1, e2, e3, e4, e5, e6, e7, hz2, rv]) rfl ⟨rfl, set8 HB2.out (Nat.le_refl _) _ _ _ _ _ _ _ _⟩
      · go_wp2_with fail
        obtain rfl : R = (zr, 8) := HR.out.symm
        exact bodyPost_ret (v := .tuple #[rv zr, .int .i64 8]) (by simp [results, Tryz.results9, go_sem, k0, k1, k2, k3, k4, k5, k6, k7, g0, hz1, rv, zr]) rfl ⟨rfl, by with_reducible exact set8 HB.out (Nat.le_refl _) _ _ _ _ _ _ _ _⟩
    · go_wp2_with fail
      obtain rfl : R = (zr, 8) := HR.out.symm
      exact bodyPost_ret (v := .tuple #[rv zr, .int .i64 8]) (by simp [results, Tryz.results9, go_sem, k0, k1, k2, k3, k4, k5, k6, k7, g0, hz1, rv, zr]) rfl ⟨rfl, by with_reducible exact set8 HB.out (Nat.le_refl _) _ _ _ _ _ _ _ _⟩

theorem nbl_any (s : ByteArray) (w : World) (hm : s.size ≤ maxLen) :
    Calls Tryz.prog 9 #[.string s] w (LPost w (nbO s).1 (nbO s).2) := by
  by_cases hs : s.size ≤ 200
  · rcases four_or (wl s.data.toList) with ⟨x0, x1, x2, x3, hw⟩ | hw
    · rw [nbO_four hs hw]
      refine nbl_four s w _ _ _ _ hs ?_ fun W => sp4 s W hs x0 x1 x2 x3 hw
      have := word_size hs hw x0 (by simp)
      unfold maxLen
      omega
    · have e : nbO s = (zr, 1) := by
        unfold nbO
        rw [if_pos hs]
        split
        · rename_i h; rw [h] at hw; simp at hw
        · rfl
      rw [e]
      exact nbl_count s w hs hw
  · have e : nbO s = (zr, 1) := by unfold nbO; rw [if_neg hs]
    rw [e]
    exact nbl_long s w (by omega) hm
end Go.Proofs.YthpgmlijfcfddaaGreatDoor
