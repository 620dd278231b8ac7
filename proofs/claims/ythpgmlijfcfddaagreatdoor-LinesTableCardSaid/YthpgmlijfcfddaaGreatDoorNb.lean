/-
  The contract of lines.Neighbour. No condition but that texts are ones that a process can hold.
-/
import Derived.Test.YthpgmlijfcfddaaGreatDoorTk
import Derived.Deep.RegionWith
set_option linter.unusedSimpArgs false
set_option linter.unusedVariables false
namespace Go.Proofs.YthpgmlijfcfddaaGreatDoor
open Go.RowKit

theorem wl_len : ∀ (l : List UInt8), ∀ x ∈ wl l, x.length ≤ l.length
  | [], x, hx => by simp [wl] at hx; simp [hx]
  | c :: r, x, hx => by
    have ih := wl_len r
    simp only [wl] at hx
    split at hx
    · rcases List.mem_cons.1 hx with rfl | h
      · simp
      · have := ih x h; simp; omega
    · split at hx
      · simp at hx; simp [hx]
      · rename_i h t he
        rcases List.mem_cons.1 hx with rfl | h1
        · have := ih h (by rw [he]; simp); simp; omega
        · have := ih x (by rw [he]; simp [h1]); simp; omega

def nb4 (X0 X1 X2 X3 : ByteArray) : Rr × Int :=
  if (X1.toList == [108, 108, 97, 100, 100, 114]) = true then
    (if (X3.toList == [70, 65, 73, 76, 69, 68]) = true then (zr, 8) else
     if (X3.toList == [73, 78, 67, 79, 77, 80, 76, 69, 84, 69]) = true then (zr, 8) else
     if (X3.toList == [82, 69, 65, 67, 72, 65, 66, 76, 69]) = true then stO X0 X2 else
     if (X3.toList == [83, 84, 65, 76, 69]) = true then stO X0 X2 else
     if (X3.toList == [68, 69, 76, 65, 89]) = true then stO X0 X2 else (zr, 1))
  else (zr, 1)
/-- A line of neighbours. -/
def nbO (s : ByteArray) : Rr × Int :=
  if s.size ≤ 200 then
    match wl s.data.toList with
    | [x0, x1, x2, x3] => nb4 ⟨x0.toArray⟩ ⟨x1.toArray⟩ ⟨x2.toArray⟩ ⟨x3.toArray⟩
    | _ => (zr, 1)
  else (zr, 1)

theorem neighbour_bad (s : ByteArray) (w : World) (h : ∀ W, Calls Tryz.prog 20 #[.string s] W fun e w' => (∃ p, e = .returned (.tuple #[.slice none 0 0, eW p 1])) ∧ Below W.heap.size W w') :
    Calls Tryz.prog 8 #[.string s] w (SPost w zr 1) := by
  have HS := Lib.hid h
  clear h
  go_enter Tryz.func8, Tryz.ntmps8
  go_wp2_with fail
  refine (HS.out _).mono ?_
  rintro e w1 ⟨⟨p, rfl⟩, hb⟩
  simp only [eW]
  have HB := Lib.hid (((Below.refl _ w).alloc (Nat.le_refl _) _).trans (hb.mono (by simp)))
  obtain ⟨hc1, hf1⟩ := bcell hb
  have hz1 : w.heap.size < w1.heap.size := by have := hb.size; simp at this; omega
  clear hb
  go_wp2_with fail
  exact bodyPost_ret (v := .tuple #[rv zr, eW p 1]) (by simp [results, Tryz.results8, go_sem, hc1, hf1, hz1, rv, zr, eW]) rfl ⟨⟨_, rfl, .inr ⟨by decide, _, rfl⟩⟩, set8 HB.out (Nat.le_refl _) _ _ _ _ _ _ _ _⟩

theorem row_cells (X0 X1 X2 X3 : ByteArray) (w w1 : World) (hw : w1 = w.alloc (.cells #[.string X0, .string X1, .string X2, .string X3] 9)) :
    w1.cell? ⟨w.heap.size, 0, none⟩ = some (.string X0) ∧ w1.cell? ⟨w.heap.size, 1, none⟩ = some (.string X1) ∧ w1.cell? ⟨w.heap.size, 2, none⟩ = some (.string X2) ∧ w1.cell? ⟨w.heap.size, 3, none⟩ = some (.string X3) := by
  subst hw
  exact ⟨by simp, by simp, by simp, by simp⟩

set_option maxHeartbeats 4000000 in
theorem neighbour_four (s : ByteArray) (w : World) (X0 X1 X2 X3 : ByteArray) (hx : X0.size ≤ maxLen) (h : ∀ W, Calls Tryz.prog 20 #[.string s] W fun e w' => e = .returned (.tuple #[.slice (some ⟨W.heap.size, 0, none⟩) 4 4, .nilIface]) ∧ w' = W.alloc (.cells #[.string X0, .string X1, .string X2, .string X3] 9)) :
    Calls Tryz.prog 8 #[.string s] w (SPost w (nb4 X0 X1 X2 X3).1 (nb4 X0 X1 X2 X3).2) := by
  have HS := Lib.hid h
  have HT := Lib.hid fun W => station_any X0 X2 W hx
  clear h hx
  obtain ⟨R, hR⟩ : ∃ R, nb4 X0 X1 X2 X3 = R := ⟨_, rfl⟩
  rw [hR]
  unfold nb4 at hR
  generalize stO X0 X2 = S at *
  obtain ⟨⟨a, m0, m1, m2, m3, m4, m5, u⟩, n⟩ := S
  generalize h1 : (X1.toList == [108, 108, 97, 100, 100, 114]) = T1 at hR
  generalize h2 : (X3.toList == [70, 65, 73, 76, 69, 68]) = T2 at hR
  generalize h3 : (X3.toList == [73, 78, 67, 79, 77, 80, 76, 69, 84, 69]) = T3 at hR
  generalize h4 : (X3.toList == [82, 69, 65, 67, 72, 65, 66, 76, 69]) = T4 at hR
  generalize h5 : (X3.toList == [83, 84, 65, 76, 69]) = T5 at hR
  generalize h6 : (X3.toList == [68, 69, 76, 65, 89]) = T6 at hR
  have HR := Lib.hid hR
  clear hR
  have HBz := Lib.hid (show Below w.heap.size w (w.alloc (.cells #[.int .u32 0, .int .u8 0, .int .u8 0, .int .u8 0, .int .u8 0, .int .u8 0, .int .u8 0, .int .i64 0] 33)) from (Below.refl _ w).alloc (Nat.le_refl _) _)
  have HB0 := Lib.hid (show Below w.heap.size w ((w.alloc (.cells #[.int .u32 0, .int .u8 0, .int .u8 0, .int .u8 0, .int .u8 0, .int .u8 0, .int .u8 0, .int .i64 0] 33)).alloc (.cells #[.string X0, .string X1, .string X2, .string X3] 9)) from HBz.out.alloc HBz.out.size _)
  go_enter Tryz.func8, Tryz.ntmps8
  go_wp2_with fail
  refine (HS.out _).mono ?_
  rintro e w1 ⟨rfl, rfl⟩
  cases T1
  · go_wp2_with fail
    obtain rfl : R = (zr, 1) := HR.out.symm
    exact bodyPost_ret (v := .tuple #[rv zr, eW ⟨#[115, 101, 99, 111, 110, 100, 32, 119, 111, 114, 100]⟩ 1]) (by simp [results, Tryz.results8, go_sem, rv, zr, eW]) rfl ⟨⟨_, rfl, .inr ⟨(by decide : (1 : Int) ≠ 0), _, rfl⟩⟩, HB0.out⟩
  · cases T2
    · cases T3
      · cases T4
        · cases T5
          · cases T6
            · go_wp2_with fail
              obtain rfl : R = (zr, 1) := HR.out.symm
              exact bodyPost_ret (v := .tuple #[rv zr, eW ⟨#[102, 111, 117, 114, 116, 104, 32, 119, 111, 114, 100]⟩ 1]) (by simp [results, Tryz.results8, go_sem, rv, zr, eW]) rfl ⟨⟨_, rfl, .inr ⟨(by decide : (1 : Int) ≠ 0), _, rfl⟩⟩, HB0.out⟩
            · go_wp2_with fail
              obtain rfl : R = (⟨a, m0, m1, m2, m3, m4, m5, u⟩, n) := HR.out.symm
              go_region_with (go_at_call 21; refine (HT.out _).mono ?_; rintro e w2 ⟨⟨ev, rfl, hew⟩, hb⟩; simp only [rv]; have HEV := Lib.hid hew; have HB2 := Lib.hid (HB0.out.drew.trans (hb.mono (by simp; omega))); obtain ⟨hc2, hf2⟩ := bcell hb; have k0 : w2.cell? ⟨w.heap.size, 0, none⟩ = some (.int .u32 0) := (by rw [hb.cell (p := ⟨w.heap.size, 0, none⟩) (by simp; omega)]; simp); have k1 : w2.cell? ⟨w.heap.size, 1, none⟩ = some (.int .u8 0) := (by rw [hb.cell (p := ⟨w.heap.size, 1, none⟩) (by simp; omega)]; simp); have k2 : w2.cell? ⟨w.heap.size, 2, none⟩ = some (.int .u8 0) := (by rw [hb.cell (p := ⟨w.heap.size, 2, none⟩) (by simp; omega)]; simp); have k3 : w2.cell? ⟨w.heap.size, 3, none⟩ = some (.int .u8 0) := (by rw [hb.cell (p := ⟨w.heap.size, 3, none⟩) (by simp; omega)]; simp); have k4 : w2.cell? ⟨w.heap.size, 4, none⟩ = some (.int .u8 0) := (by rw [hb.cell (p := ⟨w.heap.size, 4, none⟩) (by simp; omega)]; simp); have k5 : w2.cell? ⟨w.heap.size, 5, none⟩ = some (.int .u8 0) := (by rw [hb.cell (p := ⟨w.heap.size, 5, none⟩) (by simp; omega)]; simp); have k6 : w2.cell? ⟨w.heap.size, 6, none⟩ = some (.int .u8 0) := (by rw [hb.cell (p := ⟨w.heap.size, 6, none⟩) (by simp; omega)]; simp); have k7 : w2.cell? ⟨w.heap.size, 7, none⟩ = some (.int .i64 0) := (by rw [hb.cell (p := ⟨w.heap.size, 7, none⟩) (by simp; omega)]; simp); have hz2 : w.heap.size < w2.heap.size := (by have := hb.size; simp at this; omega); clear hb hew)
              all_goals
                go_wp2_with fail
                exact bodyPost_ret (v := .tuple #[rv ⟨a, m0, m1, m2, m3, m4, m5, u⟩, ev]) (by simp [results, Tryz.results8, go_sem, k0, k1, k2, k3, k4, k5, k6, k7, hz2, rv]) rfl ⟨⟨_, rfl, HEV.out⟩, set8 HB2.out (Nat.le_refl _) _ _ _ _ _ _ _ _⟩
          · go_wp2_with fail
            obtain rfl : R = (⟨a, m0, m1, m2, m3, m4, m5, u⟩, n) := HR.out.symm
            go_region_with (go_at_call 21; refine (HT.out _).mono ?_; rintro e w2 ⟨⟨ev, rfl, hew⟩, hb⟩; simp only [rv]; have HEV := Lib.hid hew; have HB2 := Lib.hid (HB0.out.drew.trans (hb.mono (by simp; omega))); obtain ⟨hc2, hf2⟩ := bcell hb; have k0 : w2.cell? ⟨w.heap.size, 0, none⟩ = some (.int .u32 0) := (by rw [hb.cell (p := ⟨w.heap.size, 0, none⟩) (by simp; omega)]; simp); have k1 : w2.cell? ⟨w.heap.size, 1, none⟩ = some (.int .u8 0) := (by rw [hb.cell (p := ⟨w.heap.size, 1, none⟩) (by simp; omega)]; simp); have k2 : w2.cell? ⟨w.heap.size, 2, none⟩ = some (.int .u8 0) := (by rw [hb.cell (p := ⟨w.heap.size, 2, none⟩) (by simp; omega)]; simp); have k3 : w2.cell? ⟨w.heap.size, 3, none⟩ = some (.int .u8 0) := (by rw [hb.cell (p := ⟨w.heap.size, 3, none⟩) (by simp; omega)]; simp); have k4 : w2.cell? ⟨w.heap.size, 4, none⟩ = some (.int .u8 0) := (by rw [hb.cell (p := ⟨w.heap.size, 4, none⟩) (by simp; omega)]; simp); have k5 : w2.cell? ⟨w.heap.size, 5, none⟩ = some (.int .u8 0) := (by rw [hb.cell (p := ⟨w.heap.size, 5, none⟩) (by simp; omega)]; simp); have k6 : w2.cell? ⟨w.heap.size, 6, none⟩ = some (.int .u8 0) := (by rw [hb.cell (p := ⟨w.heap.size, 6, none⟩) (by simp; omega)]; simp); have k7 : w2.cell? ⟨w.heap.size, 7, none⟩ = some (.int .i64 0) := (by rw [hb.cell (p := ⟨w.heap.size, 7, none⟩) (by simp; omega)]; simp); have hz2 : w.heap.size < w2.heap.size := (by have := hb.size; simp at this; omega); clear hb hew)
            all_goals
              go_wp2_with fail
              exact bodyPost_ret (v := .tuple #[rv ⟨a, m0, m1, m2, m3, m4, m5, u⟩, ev]) (by simp [results, Tryz.results8, go_sem, k0, k1, k2, k3, k4, k5, k6, k7, hz2, rv]) rfl ⟨⟨_, rfl, HEV.out⟩, set8 HB2.out (Nat.le_refl _) _ _ _ _ _ _ _ _⟩
        · go_wp2_with fail
          obtain rfl : R = (⟨a, m0, m1, m2, m3, m4, m5, u⟩, n) := HR.out.symm
          go_region_with (go_at_call 21; refine (HT.out _).mono ?_; rintro e w2 ⟨⟨ev, rfl, hew⟩, hb⟩; simp only [rv]; have HEV := Lib.hid hew; have HB2 := Lib.hid (HB0.out.drew.trans (hb.mono (by simp; omega))); obtain ⟨hc2, hf2⟩ := bcell hb; have k0 : w2.cell? ⟨w.heap.size, 0, none⟩ = some (.int .u32 0) := (by rw [hb.cell (p := ⟨w.heap.size, 0, none⟩) (by simp; omega)]; simp); have k1 : w2.cell? ⟨w.heap.size, 1, none⟩ = some (.int .u8 0) := (by rw [hb.cell (p := ⟨w.heap.size, 1, none⟩) (by simp; omega)]; simp); have k2 : w2.cell? ⟨w.heap.size, 2, none⟩ = some (.int .u8 0) := (by rw [hb.cell (p := ⟨w.heap.size, 2, none⟩) (by simp; omega)]; simp); have k3 : w2.cell? ⟨w.heap.size, 3, none⟩ = some (.int .u8 0) := (by rw [hb.cell (p := ⟨w.heap.size, 3, none⟩) (by simp; omega)]; simp); have k4 : w2.cell? ⟨w.heap.size, 4, none⟩ = some (.int .u8 0) := (by rw [hb.cell (p := ⟨w.heap.size, 4, none⟩) (by simp; omega)]; simp); have k5 : w2.cell? ⟨w.heap.size, 5, none⟩ = some (.int .u8 0) := (by rw [hb.cell (p := ⟨w.heap.size, 5, none⟩) (by simp; omega)]; simp); have k6 : w2.cell? ⟨w.heap.size, 6, none⟩ = some (.int .u8 0) := (by rw [hb.cell (p := ⟨w.heap.size, 6, none⟩) (by simp; omega)]; simp); have k7 : w2.cell? ⟨w.heap.size, 7, none⟩ = some (.int .i64 0) := (by rw [hb.cell (p := ⟨w.heap.size, 7, none⟩) (by simp; omega)]; simp); have hz2 : w.heap.size < w2.heap.size := (by have := hb.size; simp at this; omega); clear hb hew)
          all_goals
            go_wp2_with fail
            exact bodyPost_ret (v := .tuple #[rv ⟨a, m0, m1, m2, m3, m4, m5, u⟩, ev]) (by simp [results, Tryz.results8, go_sem, k0, k1, k2, k3, k4, k5, k6, k7, hz2, rv]) rfl ⟨⟨_, rfl, HEV.out⟩, set8 HB2.out (Nat.le_refl _) _ _ _ _ _ _ _ _⟩
      · go_wp2_with fail
        obtain rfl : R = (zr, 8) := HR.out.symm
        exact bodyPost_ret (v := .tuple #[rv zr, eW ⟨#[110, 101, 105, 103, 104, 98, 111, 117, 114]⟩ 8]) (by simp [results, Tryz.results8, go_sem, rv, zr, eW]) rfl ⟨⟨_, rfl, .inr ⟨(by decide : (8 : Int) ≠ 0), _, rfl⟩⟩, HB0.out⟩
    · go_wp2_with fail
      obtain rfl : R = (zr, 8) := HR.out.symm
      exact bodyPost_ret (v := .tuple #[rv zr, eW ⟨#[110, 101, 105, 103, 104, 98, 111, 117, 114]⟩ 8]) (by simp [results, Tryz.results8, go_sem, rv, zr, eW]) rfl ⟨⟨_, rfl, .inr ⟨(by decide : (8 : Int) ≠ 0), _, rfl⟩⟩, HB0.out⟩

theorem nbO_four {s : ByteArray} {x0 x1 x2 x3 : List UInt8} (hs : s.size ≤ 200) (hw : wl s.data.toList = [x0, x1, x2, x3]) : nbO s = nb4 ⟨x0.toArray⟩ ⟨x1.toArray⟩ ⟨x2.toArray⟩ ⟨x3.toArray⟩ := by
  simp [nbO, hs, hw]
theorem four_or (L : List (List UInt8)) : (∃ x0 x1 x2 x3, L = [x0, x1, x2, x3]) ∨ L.length ≠ 4 := by
  by_cases h : L.length = 4
  · match L, h with
    | [x0, x1, x2, x3], _ => exact .inl ⟨x0, x1, x2, x3, rfl⟩
  · exact .inr h
theorem word_size {s : ByteArray} {x0 x1 x2 x3 : List UInt8} (hs : s.size ≤ 200) (hw : wl s.data.toList = [x0, x1, x2, x3]) : ∀ x, x ∈ [x0, x1, x2, x3] → (⟨x.toArray⟩ : ByteArray).size ≤ 200 := by
  intro x hx
  rw [← hw] at hx
  have h := wl_len _ x hx
  rw [← Lib.size_eq] at h
  show x.toArray.size ≤ 200
  simp
  omega
theorem neighbour_any (s : ByteArray) (w : World) (hm : s.size ≤ maxLen) :
    Calls Tryz.prog 8 #[.string s] w (SPost w (nbO s).1 (nbO s).2) := by
  by_cases hs : s.size ≤ 200
  · rcases four_or (wl s.data.toList) with ⟨x0, x1, x2, x3, hw⟩ | hw
    · rw [nbO_four hs hw]
      refine neighbour_four s w _ _ _ _ ?_ fun W => split_yes s W hs x0 x1 x2 x3 hw
      have := word_size hs hw x0 (by simp)
      unfold maxLen
      omega
    · have e : nbO s = (zr, 1) := by
        unfold nbO
        rw [if_pos hs]
        split
        · rename_i h; rw [h] at hw; simp at hw
        · rfl
      rw [e]
      exact neighbour_bad s w fun W => split_count s W hs hw
  · have e : nbO s = (zr, 1) := by unfold nbO; rw [if_neg hs]
    rw [e]
    exact neighbour_bad s w fun W => split_long s W (by omega) hm
end Go.Proofs.YthpgmlijfcfddaaGreatDoor
