/-
  The contract of the statements' own 'lease': what lines.Lease gives, with a number for what is wrong. No condition but that texts are ones that a process can hold.
-/
import Derived.Test.YthpgmlijfcfddaaGreatDoorNl
import Derived.Test.YthpgmlijfcfddaaGreatDoorNm
import Derived.Deep.CutRange
set_option linter.unusedSimpArgs false
set_option linter.unusedVariables false
namespace Go.Proofs.YthpgmlijfcfddaaGreatDoor
open Go.RowKit

theorem pu_dd2 (u : Nat) (h : u < 18446744073709551616) : Lib.parseUint10 0 (Lib.decDigits u) = .ok u := by
  induction u using Nat.strongRecOn with
  | _ u ih =>
    by_cases hu : u < 10
    · rw [Ad.dd_small hu, pu_one 0 u hu (by omega) (by omega)]
      congr 1
      omega
    · rw [Ad.dd_big hu, pu_app _ _ _ _ (ih (u / 10) (by omega) (by omega)), pu_one (u / 10) (u % 10) (by omega) (by omega) (by omega)]
      congr 1
      omega
theorem atoi_neg (u : Nat) (h0 : 1 ≤ u) (h : u ≤ 9223372036854775808) : Lib.atoiAll (45 :: Lib.decDigits u) = .ok (-(u : Int)) := by
  have hp := pu_dd2 u (by omega)
  obtain ⟨c, r, hc, h48⟩ := dd_ne u
  rw [hc] at hp ⊢
  have e : Lib.parseMag (if (45 : UInt8).toNat = 43 ∨ (45 : UInt8).toNat = 45 then c :: r else 45 :: c :: r) = .ok u := by
    rw [if_pos (by decide)]
    unfold Lib.parseMag
    rw [if_neg (by simp)]
    exact hp
  simp only [Lib.atoiAll, e]
  rw [if_neg (fun h => h.1 rfl), if_neg (fun h => by have := h.2; omega), if_pos (show (45 : UInt8).toNat = 45 from rfl)]
theorem tk_ok {n : Int} {l : List UInt8} (h0 : -9223372036854775808 ≤ n) (h1 : n ≤ 9223372036854775807) (h : Lib.itoa n = l) : tkO l = if n < 0 ∨ 1099511627776 < n then (0, 3) else (n, 0) := by
  have e : Lib.atoiAll l = .ok n := by
    by_cases hn : 0 ≤ n
    · rw [← h, itoa_dd hn, atoi_dd _ (by omega), Int.toNat_of_nonneg hn]
    · obtain ⟨u, hu⟩ := Int.eq_ofNat_of_zero_le (show 0 ≤ -n by omega)
      obtain rfl : n = -(u : Int) := by omega
      rw [← h, itoa_neg' u (by omega)]
      exact atoi_neg u (by omega) (by omega)
  simp only [tkO, e]
  rw [if_pos h]
theorem tk_no {l : List UInt8} (h : ∀ v, -9223372036854775808 ≤ v → v ≤ 9223372036854775807 → Lib.itoa v ≠ l) : tkO l = (0, 1) := by
  unfold tkO
  cases e : Lib.atoiAll l with
  | ok v =>
    have := atoi_bd e
    simp only
    rw [if_neg (h v this.1 this.2)]
  | _ => rfl
theorem st_zero (x y : ByteArray) (h : (stO x y).2 ≠ 0) : (stO x y).1 = zr := by
  revert h
  unfold stO
  split <;> (try split) <;> (try split) <;> simp
theorem lsl_long (s : ByteArray) (w : World) (hs : 200 < s.size) (hm : s.size ≤ maxLen) :
    Calls Tryz.prog 12 #[.string s] w (LPost w zr 1) := by
  unfold maxLen at hm
  go_enter Tryz.func12, Tryz.ntmps12
  go_wp2_with fail
  exact bodyPost_ret (v := .tuple #[rv zr, .int .i64 1]) (by simp [results, Tryz.results12, go_sem, rv, zr]) rfl ⟨rfl, (Below.refl _ w).alloc (Nat.le_refl _) _⟩
theorem lsl_count (s : ByteArray) (w : World) (hs : s.size ≤ 200) (hw : (wl s.data.toList).length ≠ 4) :
    Calls Tryz.prog 12 #[.string s] w (LPost w zr 1) := by
  have HS := Lib.hid fun W => spl_any s W hs
  generalize wl s.data.toList = L at *
  have e1 : ((L.length : Int) != 4) = true := by simp; omega
  obtain ⟨n, hn⟩ : ∃ n, L.length = n := ⟨_, rfl⟩
  rw [hn] at HS e1
  clear hw hn
  go_enter Tryz.func12, Tryz.ntmps12
  go_wp2_with fail
  refine (HS.out _).mono ?_
  rintro e w1 ⟨⟨g, cap, rfl, hg, hW⟩, hb⟩
  have HB := Lib.hid (((Below.refl _ w).alloc (Nat.le_refl _) _).trans (hb.mono (by simp)))
  obtain ⟨hc1, hf1⟩ := bcell hb
  have hz1 : w.heap.size < w1.heap.size := by have := hb.size; simp at this; omega
  clear hb hW hg
  go_wp2_with fail
  exact bodyPost_ret (v := .tuple #[rv zr, .int .i64 1]) (by simp [results, Tryz.results12, go_sem, hc1, hf1, hz1, rv, zr]) rfl ⟨rfl, by with_reducible exact set8 HB.out (Nat.le_refl _) _ _ _ _ _ _ _ _⟩


set_option maxHeartbeats 4000000 in
theorem lsl_four (s : ByteArray) (w : World) (X0 X1 X2 X3 : ByteArray) (hs : s.size ≤ 200) (hx : X1.size ≤ maxLen) (hy : X3.size ≤ 1000) (h : ∀ W, Calls Tryz.prog 22 #[.string s] W (Sp4 X0 X1 X2 X3 W)) :
    Calls Tryz.prog 12 #[.string s] w (LPost w (ls4 X0 X1 X2 X3).1 (ls4 X0 X1 X2 X3).2) := by
  have HS := Lib.hid h
  have HT := Lib.hid fun W => stl_any X1 X2 W hx
  have HNM := Lib.hid fun W => numl_any X3 W hy
  have HZ := Lib.hid (st_zero X1 X2)
  clear h hx hy
  obtain ⟨R, hR⟩ : ∃ R, ls4 X0 X1 X2 X3 = R := ⟨_, rfl⟩
  rw [hR]
  unfold ls4 at hR
  generalize stO X1 X2 = S at *
  obtain ⟨⟨a, m0, m1, m2, m3, m4, m5, u⟩, n⟩ := S
  generalize h1 : (X0.toList == [108, 101, 97, 115, 101]) = T1 at hR
  have HR := Lib.hid hR
  clear hR
  go_enter Tryz.func12, Tryz.ntmps12
  go_wp2_with fail
  refine (HS.out _).mono ?_
  rintro e w1 ⟨g, cap, rfl, hg, hcap, ⟨j0, j1, j2, j3⟩, hb⟩
  have HB := Lib.hid (((Below.refl _ w).alloc (Nat.le_refl _) _).trans (hb.mono (by simp)))
  have k0 : w1.cell? ⟨w.heap.size, 0, none⟩ = some (.int .u32 0) := by rw [hb.cell (p := ⟨w.heap.size, 0, none⟩) (by simp)]; simp
  have k1 : w1.cell? ⟨w.heap.size, 1, none⟩ = some (.int .u8 0) := by rw [hb.cell (p := ⟨w.heap.size, 1, none⟩) (by simp)]; simp
  have k2 : w1.cell? ⟨w.heap.size, 2, none⟩ = some (.int .u8 0) := by rw [hb.cell (p := ⟨w.heap.size, 2, none⟩) (by simp)]; simp
  have k3 : w1.cell? ⟨w.heap.size, 3, none⟩ = some (.int .u8 0) := by rw [hb.cell (p := ⟨w.heap.size, 3, none⟩) (by simp)]; simp
  have k4 : w1.cell? ⟨w.heap.size, 4, none⟩ = some (.int .u8 0) := by rw [hb.cell (p := ⟨w.heap.size, 4, none⟩) (by simp)]; simp
  have k5 : w1.cell? ⟨w.heap.size, 5, none⟩ = some (.int .u8 0) := by rw [hb.cell (p := ⟨w.heap.size, 5, none⟩) (by simp)]; simp
  have k6 : w1.cell? ⟨w.heap.size, 6, none⟩ = some (.int .u8 0) := by rw [hb.cell (p := ⟨w.heap.size, 6, none⟩) (by simp)]; simp
  have k7 : w1.cell? ⟨w.heap.size, 7, none⟩ = some (.int .i64 0) := by rw [hb.cell (p := ⟨w.heap.size, 7, none⟩) (by simp)]; simp
  have g0 : ∀ k, w1.frozen? ⟨w.heap.size, k, none⟩ = false := fun k => by rw [hb.frozen (p := ⟨w.heap.size, k, none⟩) (by simp)]; simp
  have hz1 : w.heap.size < w1.heap.size := by have := hb.size; simp at this; omega
  have hgn : w.heap.size ≠ g := by simp at hg; omega
  clear hb hg
  cases T1
  · go_wp2_with fail
    obtain rfl : R = (zr, 1) := HR.out.symm
    exact bodyPost_ret (v := .tuple #[rv zr, .int .i64 1]) (by simp [results, Tryz.results12, go_sem, k0, k1, k2, k3, k4, k5, k6, k7, hz1, rv, zr]) rfl ⟨rfl, by with_reducible exact set8 HB.out (Nat.le_refl _) _ _ _ _ _ _ _ _⟩
  · go_wp2_with fail
    refine (HNM.out _).mono ?_
    rintro e w2 ⟨⟨v, ok, rfl, hv0, hv1, hok, hno⟩, rfl⟩
    cases ok
    · have e1 := tk_no (hno rfl)
      have HRe := Lib.hid (show R = (zr, 1) by rw [← HR.out, e1]; simp)
      clear HR hok hno e1
      go_wp2_with fail
      obtain rfl := HRe.out
      exact bodyPost_ret (v := .tuple #[rv zr, .int .i64 1]) (by simp [results, Tryz.results12, go_sem, k0, k1, k2, k3, k4, k5, k6, k7, hz1, rv, zr]) rfl ⟨rfl, by with_reducible exact set8 HB.out (Nat.le_refl _) _ _ _ _ _ _ _ _⟩
    · have e1 := tk_ok hv0 hv1 (hok rfl)
      clear hok hno
      by_cases c1 : v < 0
      · have HRe := Lib.hid (show R = (zr, 3) by rw [← HR.out, e1]; simp [c1])
        clear HR e1
        go_wp2_with fail
        obtain rfl := HRe.out
        exact bodyPost_ret (v := .tuple #[rv zr, .int .i64 3]) (by simp [results, Tryz.results12, go_sem, k0, k1, k2, k3, k4, k5, k6, k7, hz1, rv, zr]) rfl ⟨rfl, by with_reducible exact set8 HB.out (Nat.le_refl _) _ _ _ _ _ _ _ _⟩
      by_cases c2 : 1099511627776 < v
      · have HRe := Lib.hid (show R = (zr, 3) by rw [← HR.out, e1]; simp [c2])
        clear HR e1
        go_wp2_with fail
        obtain rfl := HRe.out
        exact bodyPost_ret (v := .tuple #[rv zr, .int .i64 3]) (by simp [results, Tryz.results12, go_sem, k0, k1, k2, k3, k4, k5, k6, k7, hz1, rv, zr]) rfl ⟨rfl, by with_reducible exact set8 HB.out (Nat.le_refl _) _ _ _ _ _ _ _ _⟩
      rw [if_neg (by omega)] at e1
      rw [e1] at HR
      clear e1
      have hgl : g < w2.heap.size := World.block_lt_of_cell? _ _ j0
      have hge : g ≠ w2.heap.size := by omega
      have hge2 : w2.heap.size ≠ g := hge.symm
      go_upto_region 11 with (fail)
      go_cut [7, 8] from 42 to 52 (fun p x wc => x = .int .i64 n ∧ Hid (Lr w2 ⟨a, m0, m1, m2, m3, m4, m5, u⟩ 0 .nilIface p wc))
      case first =>
        have HEV : Hid (Ew 0 Value.nilIface) := Lib.hid (.inl ⟨rfl, rfl⟩)
        go_region_with (go_at_call 23; refine (HT.out _).mono ?_; rintro e w3 ⟨rfl, hb⟩; simp only [rv]; have HB3 := Lib.hid hb; obtain ⟨hc3, hf3⟩ := bcell hb; have hz3 := hb.size; simp at hz3; clear hb)
        all_goals
          go_wp2_with fail
          go_meet
          case rel => exact ⟨rfl, by first | (with_reducible exact Lib.hid (lr_new HB3.out ⟨a, m0, m1, m2, m3, m4, m5, u⟩ 0 _ HEV.out)) | (with_reducible exact Lib.hid (lr_set HB3.out ⟨a, m0, m1, m2, m3, m4, m5, u⟩ 0 _ HEV.out))⟩
      case rest =>
        obtain ⟨rfl, hL⟩ := hcut
        obtain ⟨b, rfl, -, hbb, hB, hC⟩ := hL.out
        clear hL
        have l0 : wc.cell? ⟨w.heap.size, 0, none⟩ = some (.int .u32 0) := by rw [hB.cell (p := ⟨w.heap.size, 0, none⟩) (by simpa using hz1)]; exact k0
        have l1 : wc.cell? ⟨w.heap.size, 1, none⟩ = some (.int .u8 0) := by rw [hB.cell (p := ⟨w.heap.size, 1, none⟩) (by simpa using hz1)]; exact k1
        have l2 : wc.cell? ⟨w.heap.size, 2, none⟩ = some (.int .u8 0) := by rw [hB.cell (p := ⟨w.heap.size, 2, none⟩) (by simpa using hz1)]; exact k2
        have l3 : wc.cell? ⟨w.heap.size, 3, none⟩ = some (.int .u8 0) := by rw [hB.cell (p := ⟨w.heap.size, 3, none⟩) (by simpa using hz1)]; exact k3
        have l4 : wc.cell? ⟨w.heap.size, 4, none⟩ = some (.int .u8 0) := by rw [hB.cell (p := ⟨w.heap.size, 4, none⟩) (by simpa using hz1)]; exact k4
        have l5 : wc.cell? ⟨w.heap.size, 5, none⟩ = some (.int .u8 0) := by rw [hB.cell (p := ⟨w.heap.size, 5, none⟩) (by simpa using hz1)]; exact k5
        have l6 : wc.cell? ⟨w.heap.size, 6, none⟩ = some (.int .u8 0) := by rw [hB.cell (p := ⟨w.heap.size, 6, none⟩) (by simpa using hz1)]; exact k6
        have l7 : wc.cell? ⟨w.heap.size, 7, none⟩ = some (.int .i64 0) := by rw [hB.cell (p := ⟨w.heap.size, 7, none⟩) (by simpa using hz1)]; exact k7
        have hg' : ∀ k, wc.frozen? ⟨w.heap.size, k, none⟩ = false := fun k => by rw [hB.frozen (p := ⟨w.heap.size, k, none⟩) (by simpa using hz1)]; exact g0 k
        have HB4 := Lib.hid (HB.out.trans (hB.mono (by omega)))
        have hzc : w.heap.size < wc.heap.size := by have := hB.size; omega
        have hne : w.heap.size ≠ b := by omega
        have hne2 := hne.symm
        have HWB := Lib.hid (show w.heap.size ≤ b by omega)
        have d0 := hC.c0
        have d1 := hC.c1
        have d2 := hC.c2
        have d3 := hC.c3
        have d4 := hC.c4
        have d5 := hC.c5
        have d6 := hC.c6
        have d7 := hC.c7
        have df := hC.f
        simp only at d0 d1 d2 d3 d4 d5 d6 d7
        clear hB hC k0 k1 k2 k3 k4 k5 k6 k7 j0 j1 j2 j3 g0
        by_cases hn : n = 0
        · subst hn
          have HRe := Lib.hid (show R = (⟨a, m0, m1, m2, m3, m4, m5, v⟩, 0) by rw [← HR.out]; simp)
          clear HR
          go_wp2_with fail
          obtain rfl := HRe.out
          exact bodyPost_ret (v := .tuple #[rv ⟨a, m0, m1, m2, m3, m4, m5, v⟩, .int .i64 0]) (by simp [results, Tryz.results12, go_sem, l0, l1, l2, l3, l4, l5, l6, l7, hzc, hne, hne.symm, rv]) rfl ⟨rfl, (by with_reducible exact set8 (HB4.out.setCell HWB.out _) (Nat.le_refl _) _ _ _ _ _ _ _ _)⟩
        · have hzr : (⟨a, m0, m1, m2, m3, m4, m5, u⟩ : Rr) = zr := HZ.out hn
          have HRe := Lib.hid (show R = (⟨a, m0, m1, m2, m3, m4, m5, u⟩, n) by rw [← HR.out, hzr]; simp [hn])
          have e0 : (n == 0) = false := by simpa using hn
          clear HR hzr HZ
          go_wp2_with fail
          obtain rfl := HRe.out
          exact bodyPost_ret (v := .tuple #[rv ⟨a, m0, m1, m2, m3, m4, m5, u⟩, .int .i64 n]) (by simp [results, Tryz.results12, go_sem, l0, l1, l2, l3, l4, l5, l6, l7, hzc, hne, hne.symm, rv]) rfl ⟨rfl, (by with_reducible exact set8 HB4.out (Nat.le_refl _) _ _ _ _ _ _ _ _)⟩

theorem lsl_any (s : ByteArray) (w : World) (hm : s.size ≤ maxLen) :
    Calls Tryz.prog 12 #[.string s] w (LPost w (lsO s).1 (lsO s).2) := by
  by_cases hs : s.size ≤ 200
  · rcases four_or (wl s.data.toList) with ⟨x0, x1, x2, x3, hw⟩ | hw
    · rw [lsO_four hs hw]
      have h1 := word_size hs hw x1 (by simp)
      have h3 := word_size hs hw x3 (by simp)
      exact lsl_four s w _ _ _ _ hs (by unfold maxLen; omega) (by omega) fun W => sp4 s W hs x0 x1 x2 x3 hw
    · have e : lsO s = (zr, 1) := by
        unfold lsO
        rw [if_pos hs]
        split
        · rename_i h; rw [h] at hw; simp at hw
        · rfl
      rw [e]
      exact lsl_count s w hs hw
  · have e : lsO s = (zr, 1) := by unfold lsO; rw [if_neg hs]
    rw [e]
    exact lsl_long s w (by omega) hm
end Go.Proofs.YthpgmlijfcfddaaGreatDoor
