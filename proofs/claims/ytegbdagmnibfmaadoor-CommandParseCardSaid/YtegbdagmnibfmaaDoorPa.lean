/-
  The contract of the statements' own parse: what a command means, or what is wrong of it, is what command.Parse tells. No condition but that the text is one that a process can hold.
-/
import Derived.Test.YtegbdagmnibfmaaDoorFld
set_option linter.unusedSimpArgs false
set_option linter.unusedVariables false
namespace Go.Proofs.YtegbdagmnibfmaaDoor
open Go.RowKit

theorem keepCB {w W : World} {B g j : Nat} {v : Value} (hb : Below B w W) (hg : g < B) (hc : w.cell? ⟨g, j, none⟩ = some v) : W.cell? ⟨g, j, none⟩ = some v := (hb.cell (p := ⟨g, j, none⟩) hg).trans hc
/-- What a function answers that gives an event, a place and a number. -/
def QPost (w : World) (r : Ev × Int × Int) (e : Ending) (w' : World) : Prop := e = .returned (.tuple #[evv r.1, .int .i64 r.2.1, .int .i64 r.2.2]) ∧ Below w.heap.size w w'
set_option maxRecDepth 100000 in
set_option maxHeartbeats 2000000 in
theorem pa_long (s : ByteArray) (w : World) (hs : 200 < s.size) (hm : s.size ≤ maxLen) : Calls Tryd.prog 11 #[.string s] w (QPost w (zev, -1, 3)) := by
  have P0 := Lib.hid (ev_box w zev)
  have B0 := Lib.hid ((Below.refl w.heap.size w).alloc (Nat.le_refl _) (Evx zev))
  have h1 : (200 : Int) < s.size := by omega
  unfold maxLen at hm
  go_enter Tryd.func11, Tryd.ntmps11
  go_wp2_with (refine at_store41 _ _ w.heap.size zev zev P0.out rfl rfl rfl rfl ?_; intro wy PY BY GY)
  refine bodyPost_ret (results_cell3 rfl _ _ _ _ _ _ rfl rfl rfl (loadv41 PY.out)) rfl ?_
  exact ⟨rfl, B0.out.trans (BY.out _ (Nat.le_refl _))⟩

set_option maxRecDepth 100000 in
set_option maxHeartbeats 8000000 in
theorem pa_short (s : ByteArray) (w : World) (hs : s.size ≤ 200) (L : List (List UInt8)) (hL : wl s.data.toList = L) : Calls Tryd.prog 11 #[.string s] w (QPost w (psW L)) := by
  have hne := wl_ne s.data.toList
  have hszs : ∀ x ∈ L, (⟨x.toArray⟩ : ByteArray).size ≤ maxLen := fun x hx => by
    have h := wl_len s.data.toList x (by rw [hL]; exact hx)
    rw [← Lib.size_eq] at h
    show x.toArray.size ≤ maxLen
    unfold maxLen
    simp
    omega
  rw [hL] at hne
  have hLn : L.length ≤ 201 := by
    rw [← hL]
    have := words_le s.data.toList
    rw [← Lib.size_eq] at this
    omega
  have HC := Lib.hid fun W => cut_any s W hs
  rw [hL] at HC
  obtain ⟨x0, r, rfl⟩ : ∃ x0 r, L = x0 :: r := by
    cases L with
    | nil => exact absurd rfl hne
    | cons a b => exact ⟨a, b, rfl⟩
  have P0 := Lib.hid (ev_box w zev)
  have B0 := Lib.hid ((Below.refl w.heap.size w).alloc (Nat.le_refl _) (Evx zev))
  have h1 : ¬ (200 : Int) < s.size := by omega
  have HSZ := Lib.hid hszs
  obtain ⟨R, hR⟩ : ∃ R, psW (x0 :: r) = R := ⟨_, rfl⟩
  rw [hR]
  rw [psW_cons] at hR
  obtain ⟨X0, hX0⟩ : ∃ X : ByteArray, X = ⟨x0.toArray⟩ := ⟨_, rfl⟩
  rw [← hX0] at hR
  have HX0 := Lib.hid (show sv x0 = .string X0 by rw [hX0]; rfl)
  have HXA := Lib.hid hX0
  have HR := Lib.hid hR
  clear hne hszs hL hR hX0 hs
  go_enter Tryd.func11, Tryd.ntmps11
  go_wp2_with fail
  refine (HC.out _).mono ?_
  rintro e w1 ⟨⟨g, cap, rfl, hg, hwr⟩, hb⟩
  have P1 := Lib.hid (P0.out.belowX hb)
  have B1 := Lib.hid (B0.out.trans (hb.mono B0.out.size))
  have HCF := Lib.hid (show ∀ j x, (x0 :: r)[j]? = some x → w1.cell? ⟨g, j, none⟩ = some (sv x) from fun j x hx => by
    have hj : j < (x0 :: r).length := (List.getElem?_eq_some_iff.1 hx).1
    rw [World.ownsRow.cellAt hwr j (by omega), List.getElem?_map, hx]
    rfl)
  have hg1 : g < w1.heap.size := World.block_lt_of_cell? _ _ (HCF.out 0 x0 rfl)
  have Z1 := Lib.hid (ev_box w1 zev)
  have B2 := Lib.hid (B1.out.alloc B1.out.size (Evx zev))
  have L1 := Lib.hid B1.out.size
  have LP := Lib.hid P1.out.ltE
  have C2 := Lib.hid (show Below w1.heap.size w1 (w1.alloc (Evx zev)) from (Below.refl _ w1).alloc (Nat.le_refl _) _)
  generalize hn : (x0 :: r).length = n at *
  have HN := Lib.hid hn
  clear hb hwr hg hn HC
  go_wp2_with (refine at_store41 _ _ w1.heap.size zev zev Z1.out rfl rfl rfl rfl ?_; intro w3 E3 C3 G3; have B3 := Lib.hid (B2.out.trans (C3.out _ L1.out)); have D3 := Lib.hid (C2.out.trans (C3.out _ (Nat.le_refl _))))
  refine (words_any _).mono ?_
  rintro e w4 ⟨_, rfl, hb, bw, rfl, cw⟩
  have E4 := Lib.hid (E3.out.belowX hb)
  have W4 := Lib.hid cw
  have B4 := Lib.hid (B3.out.trans (hb.mono B3.out.size))
  have D4 := Lib.hid (D3.out.trans (hb.mono D3.out.size))
  have HBW := Lib.hid (show bw ≠ w1.heap.size from fun e => by
    subst e
    have := (W4.out).key 1 _ rfl
    rw [E4.out.key 1 _ rfl] at this
    cases this)
  clear hb cw
  go_wp2_with fail
  go_loopg [26] 8 (fun m i wr => ∃ k : Nat, k + m = 8 ∧ i = .int .i64 (k : Int) ∧ Hid (Cx wr w1.heap.size (evl (⟨kb X0 k, 0, ⟨#[]⟩, 0, 0, 0, 0, 0, 0, 0, 0⟩ : Ev)) ∧ Cx wr bw wdl ∧ Below w1.heap.size w1 wr))
  case atStart => exact ⟨0, by omega, rfl, by rw [kb_zero]; exact ⟨E4.out, W4.out, D4.out⟩⟩
  case round =>
    obtain ⟨k, hkm, rfl, HH⟩ := hrel
    have c0 : wr.cell? ⟨g, 0, none⟩ = some (.string X0) := by
      rw [HH.out.2.2.cell (p := ⟨g, 0, none⟩) hg1, HCF.out 0 x0 rfl, HX0.out]
    have hn0 : (0 : Int) < n := by have := HN.out; simp at this; omega
    match gk with
    | m + 1 =>
      have hk : k < 8 := by omega
      have hwd : wdl[k]? = some (.string (nm (k : Int))) := by have := wdl_at (k := (k : Int)) (by omega) (by omega); rwa [Int.toNat_natCast] at this
      have cw := HH.out.2.1.key k _ hwd
      have hke := kb_skip X0 k hk
      have hkm' := kb_miss X0 k hk
      have hkh := kb_hit X0 k hk
      obtain ⟨z, hz⟩ : ∃ z, nm (k : Int) = z := ⟨_, rfl⟩
      rw [hz] at cw hke hkm' hkh
      have e0 := HH.out.1.key 0 _ rfl
      have f0 := HH.out.1.fr 0 (by simp [evl])
      dsimp only at e0
      generalize kb X0 k = k0 at *
      clear hz hwd
      cases he : z.toList.isEmpty
      · have hee := lst_ne he
        rw [he] at hke hkh
        cases ht : (z.toList == X0.toList)
        · have HK := Lib.hid (hkm' ht)
          clear hke hkm' hkh
          go_wp2_with fail
          go_roundg m
          case measure => omega
          case rel => exact ⟨k + 1, by omega, by go_num, by rw [HK.out]; exact HH⟩
        · have HK := Lib.hid (hkh rfl ht)
          have HS := Lib.hid (show Cx (wr.setCell ⟨w1.heap.size, 0, none⟩ (.int .i64 (k : Int))) w1.heap.size (evl (⟨(k : Int), 0, ⟨#[]⟩, 0, 0, 0, 0, 0, 0, 0, 0⟩ : Ev)) from Cx.put (p := []) (old := [.int .i64 k0]) (s := [.int .u32 0, .string ⟨#[]⟩, .int .u8 0, .int .u8 0, .int .u8 0, .int .u8 0, .int .u8 0, .int .u8 0, .int .u32 0, .int .i64 0, .int .i64 0, .int .u8 0, .int .u8 0, .int .u8 0, .int .u8 0, .int .u8 0, .int .u8 0, .int .i64 0]) [.int .i64 (k : Int)] HH.out.1 rfl)
          have HW := Lib.hid (show Cx (wr.setCell ⟨w1.heap.size, 0, none⟩ (.int .i64 (k : Int))) bw wdl from cx_other HH.out.2.1 (fun j hj => heap_setCell_other wr ⟨w1.heap.size, 0, none⟩ j _ hj) HBW.out)
          have HD := Lib.hid (HH.out.2.2.setCell (p := ⟨w1.heap.size, 0, none⟩) (Nat.le_refl _) (.int .i64 (k : Int)))
          clear hke hkm' hkh
          go_wp2_with fail
          go_roundg m
          case measure => omega
          case rel => exact ⟨k + 1, by omega, by go_num, by rw [HK.out]; exact ⟨HS.out, HW.out, HD.out⟩⟩
      · have hee : (z.toList = []) = True := by simpa using List.isEmpty_iff.1 he
        have HK := Lib.hid (hke he)
        clear hke hkm' hkh
        go_wp2_with fail
        go_roundg m
        case measure => omega
        case rel => exact ⟨k + 1, by omega, by go_num, by rw [HK.out]; exact HH⟩
    | 0 =>
      obtain rfl : k = 8 := by omega
      rw [kb_8] at HH
      have E5 := Lib.hid HH.out.1
      have D5 := Lib.hid HH.out.2.2
      have B5 := Lib.hid (B1.out.trans (D5.out.mono B1.out.size))
      have P5 := Lib.hid (P1.out.keep D5.out LP.out)
      clear HH
      obtain ⟨kk, hkk⟩ : ∃ k, knd X0 = k := ⟨_, rfl⟩
      have hR := HR.out
      rw [hkk] at E5 hR
      have HKX := Lib.hid (show knd ⟨x0.toArray⟩ = kk by rw [← HXA.out]; exact hkk)
      clear hkk HR W4 E4 E3 B3 B4 D3 D4 P1 Z1
      have e0 := E5.out.key 0 _ rfl
      dsimp only at e0
      by_cases hk : kk = 0
      · have HO := Lib.hid (hR.symm.trans (if_pos hk))
        subst hk
        clear hR
        go_wp2_with (first | (refine at_store41 _ _ w.heap.size zev zev P5.out rfl rfl rfl rfl ?_; intro wy PY BY GY))
        refine bodyPost_ret (results_cell3 rfl _ _ _ _ _ _ rfl rfl rfl (loadv41 PY.out)) rfl ?_
        exact ⟨by (rw [HO.out]; first | done | rfl), B5.out.trans (BY.out _ (Nat.le_refl _))⟩
      · replace hR := hR.symm.trans (if_neg hk)
        have hk0 : (kk == 0) = false := by simpa using hk
        have hlo : loW kk = 2 ∨ loW kk = 3 := by unfold loW; split <;> omega
        by_cases hl : (n : Int) < loW kk
        · have HO := Lib.hid (show R = (zev, (n : Int), 1) by rw [hR, if_pos hl])
          clear hR
          by_cases h1k : kk = 1
          · subst h1k
            have hl2 : (n : Int) < 3 := hl
            clear hl hlo
            go_wp2_with (first | (refine at_store41 _ _ w.heap.size zev zev P5.out rfl rfl rfl rfl ?_; intro wy PY BY GY))
            refine bodyPost_ret (results_cell3 rfl _ _ _ _ _ _ rfl rfl rfl (loadv41 PY.out)) rfl ?_
            exact ⟨by (rw [HO.out]; first | done | rfl), B5.out.trans (BY.out _ (Nat.le_refl _))⟩
          · have h1k' : (kk == 1) = false := by simpa using h1k
            have hl2 : (n : Int) < 2 := by rw [show loW kk = 2 from if_neg h1k] at hl; exact hl
            clear hl hlo
            go_wp2_with (first | (refine at_store41 _ _ w.heap.size zev zev P5.out rfl rfl rfl rfl ?_; intro wy PY BY GY))
            refine bodyPost_ret (results_cell3 rfl _ _ _ _ _ _ rfl rfl rfl (loadv41 PY.out)) rfl ?_
            exact ⟨by (rw [HO.out]; first | done | rfl), B5.out.trans (BY.out _ (Nat.le_refl _))⟩
        · replace hR := hR.trans (if_neg hl)
          by_cases hh : hiW kk < (n : Int)
          · have HO := Lib.hid (show R = (zev, hiW kk, 1) by rw [hR, if_pos hh])
            clear hR
            by_cases h1k : kk = 1
            · subst h1k
              have hl2 : ¬ (n : Int) < 3 := hl
              have hh2 : (4 : Int) < n := hh
              have HO2 := Lib.hid (show R = (zev, 4, 1) from HO.out)
              clear hl hlo hh
              go_wp2_with (first | (refine at_store41 _ _ w.heap.size zev zev P5.out rfl rfl rfl rfl ?_; intro wy PY BY GY))
              refine bodyPost_ret (results_cell3 rfl _ _ _ _ _ _ rfl rfl rfl (loadv41 PY.out)) rfl ?_
              exact ⟨by (rw [HO2.out]; first | done | rfl), B5.out.trans (BY.out _ (Nat.le_refl _))⟩
            · have h1k' : (kk == 1) = false := by simpa using h1k
              have hl2 : ¬ (n : Int) < 2 := by rw [show loW kk = 2 from if_neg h1k] at hl; exact hl
              have hh2 : (2 : Int) < n := by rw [show hiW kk = 2 from if_neg h1k] at hh; exact hh
              have HO2 := Lib.hid (show R = (zev, 2, 1) by rw [HO.out, show hiW kk = 2 from if_neg h1k])
              clear hl hlo hh
              go_wp2_with (first | (refine at_store41 _ _ w.heap.size zev zev P5.out rfl rfl rfl rfl ?_; intro wy PY BY GY))
              refine bodyPost_ret (results_cell3 rfl _ _ _ _ _ _ rfl rfl rfl (loadv41 PY.out)) rfl ?_
              exact ⟨by (rw [HO2.out]; first | done | rfl), B5.out.trans (BY.out _ (Nat.le_refl _))⟩
          · replace hR := hR.trans (if_neg hh)
            have hlo2 : 2 ≤ loW kk := by unfold loW; split <;> omega
            have hhi4 : hiW kk ≤ 4 := by unfold hiW; split <;> omega
            have hkx := HKX.out
            rcases r with _ | ⟨x1, _ | ⟨x2, _ | ⟨x3, _ | ⟨x4, r⟩⟩⟩⟩
            · exfalso; have := HN.out; simp at this; omega
            · obtain rfl : n = 2 := HN.out.symm
              have h1k : kk ≠ 1 := fun e => by rw [e] at hl; exact hl (by decide)
              have h1k' : (kk == 1) = false := by simpa using h1k
              obtain ⟨X1, hX1⟩ : ∃ X : ByteArray, X = ⟨x1.toArray⟩ := ⟨_, rfl⟩
              have HV1 := Lib.hid (show sv x1 = .string X1 by rw [hX1]; rfl)
              have hsz1 : X1.size ≤ maxLen := by rw [hX1]; exact HSZ.out x1 (by simp)
              dsimp only at hR
              rw [hkx, ← hX1] at hR
              clear hl hh hlo hlo2 hhi4 hX1
              by_cases h3 : kk = 3
              · subst h3
                replace hR := hR.trans (if_pos rfl)
                have HP := Lib.hid fun W => Ad.parseBlock_any X1 W hsz1
                have c1 := keepCB D5.out hg1 (HCF.out 1 x1 rfl)
                rw [HV1.out] at c1
                cases hO : Ad.pblO X1.data.toList with
                | none =>
                  rw [hO] at HP
                  have HO := Lib.hid (show R = (zev, 1, 1) by rw [hR]; unfold blkO; rw [hO])
                  clear hR hO
                  go_wp2_with fail
                  refine (HP.out _).mono ?_
                  rintro e w6 ⟨rfl, hb⟩
                  simp only [Ad.pblV]
                  have E6 := Lib.hid (E5.out.belowX hb)
                  have P6 := Lib.hid (P5.out.belowX hb)
                  have B6 := Lib.hid (B5.out.trans (hb.mono B5.out.size))
                  have D6 := Lib.hid (D5.out.trans (hb.mono D5.out.size))
                  clear hb
                  have P7 := Lib.hid (P6.out.belowX ((Below.refl _ w6).alloc (Nat.le_refl _) (.cells #[.int .u32 0, .int .i64 0] 36)))
                  have B7 := Lib.hid (B6.out.alloc B6.out.size (.cells #[.int .u32 0, .int .i64 0] 36))
                  go_wp2_with (first | (refine at_store41 _ _ w.heap.size zev zev P7.out rfl rfl rfl rfl ?_; intro wy PY BY GY))
                  refine bodyPost_ret (results_cell3 rfl _ _ _ _ _ _ rfl rfl rfl (loadv41 PY.out)) rfl ?_
                  exact ⟨by (rw [HO.out]; first | done | rfl), B7.out.trans (BY.out _ (Nat.le_refl _))⟩
                | some p =>
                  obtain ⟨a, b⟩ := p
                  rw [hO] at HP
                  have HO := Lib.hid (show R = ((⟨3, 0, ⟨#[]⟩, 0, 0, 0, 0, 0, 0, a, b⟩ : Ev), 0, 0) by rw [hR]; unfold blkO; rw [hO])
                  clear hR hO
                  go_wp2_with fail
                  refine (HP.out _).mono ?_
                  rintro e w6 ⟨rfl, hb⟩
                  simp only [Ad.pblV]
                  have E6 := Lib.hid (E5.out.belowX hb)
                  have P6 := Lib.hid (P5.out.belowX hb)
                  have B6 := Lib.hid (B5.out.trans (hb.mono B5.out.size))
                  have D6 := Lib.hid (D5.out.trans (hb.mono D5.out.size))
                  clear hb
                  have E7 := Lib.hid (E6.out.belowX ((Below.refl _ w6).alloc (Nat.le_refl _) (.cells #[.int .u32 a, .int .i64 b] 36)))
                  have P7 := Lib.hid (P6.out.belowX ((Below.refl _ w6).alloc (Nat.le_refl _) (.cells #[.int .u32 a, .int .i64 b] 36)))
                  have B7 := Lib.hid (B6.out.alloc B6.out.size (.cells #[.int .u32 a, .int .i64 b] 36))
                  go_wp2_with (first | (refine at_put 36 _ _ w1.heap.size [.int .i64 3, .int .u32 0, .string ⟨#[]⟩, .int .u8 0, .int .u8 0, .int .u8 0, .int .u8 0, .int .u8 0, .int .u8 0] [.int .u32 0, .int .i64 0] [.int .u32 a, .int .i64 b] [.int .i64 0, .int .u8 0, .int .u8 0, .int .u8 0, .int .u8 0, .int .u8 0, .int .u8 0, .int .i64 0] E7.out rfl size36 (by simp [Value.oneCell']) rfl rfl rfl rfl ?_; intro w8 Y8 C8 G8; have E8 := Lib.hid (show Cx w8 w1.heap.size (evl (⟨3, 0, ⟨#[]⟩, 0, 0, 0, 0, 0, 0, a, b⟩ : Ev)) from Y8.out); have P8 := Lib.hid (P7.out.keep (C8.out _ (Nat.le_refl _)) LP.out); have B8 := Lib.hid (B7.out.trans (C8.out _ L1.out))) | (refine at_load41 _ w1.heap.size (⟨3, 0, ⟨#[]⟩, 0, 0, 0, 0, 0, 0, a, b⟩ : Ev) E8.out rfl rfl rfl ?_) | (refine at_store41 _ _ w.heap.size zev (⟨3, 0, ⟨#[]⟩, 0, 0, 0, 0, 0, 0, a, b⟩ : Ev) P8.out rfl rfl rfl rfl ?_; intro wy PY BY GY))
                  refine bodyPost_ret (results_cell3 rfl _ _ _ _ _ _ rfl rfl rfl (loadv41 PY.out)) rfl ?_
                  exact ⟨by (rw [HO.out]; first | done | rfl), B8.out.trans (BY.out _ (Nat.le_refl _))⟩
              · by_cases h4 : kk = 4
                · subst h4
                  replace hR := hR.trans (if_pos rfl)
                  have HP := Lib.hid fun W => Ad.parseBlock_any X1 W hsz1
                  have c1 := keepCB D5.out hg1 (HCF.out 1 x1 rfl)
                  rw [HV1.out] at c1
                  cases hO : Ad.pblO X1.data.toList with
                  | none =>
                    rw [hO] at HP
                    have HO := Lib.hid (show R = (zev, 1, 1) by rw [hR]; unfold blkO; rw [hO])
                    clear hR hO
                    go_wp2_with fail
                    refine (HP.out _).mono ?_
                    rintro e w6 ⟨rfl, hb⟩
                    simp only [Ad.pblV]
                    have E6 := Lib.hid (E5.out.belowX hb)
                    have P6 := Lib.hid (P5.out.belowX hb)
                    have B6 := Lib.hid (B5.out.trans (hb.mono B5.out.size))
                    have D6 := Lib.hid (D5.out.trans (hb.mono D5.out.size))
                    clear hb
                    have P7 := Lib.hid (P6.out.belowX ((Below.refl _ w6).alloc (Nat.le_refl _) (.cells #[.int .u32 0, .int .i64 0] 36)))
                    have B7 := Lib.hid (B6.out.alloc B6.out.size (.cells #[.int .u32 0, .int .i64 0] 36))
                    go_wp2_with (first | (refine at_store41 _ _ w.heap.size zev zev P7.out rfl rfl rfl rfl ?_; intro wy PY BY GY))
                    refine bodyPost_ret (results_cell3 rfl _ _ _ _ _ _ rfl rfl rfl (loadv41 PY.out)) rfl ?_
                    exact ⟨by (rw [HO.out]; first | done | rfl), B7.out.trans (BY.out _ (Nat.le_refl _))⟩
                  | some p =>
                    obtain ⟨a, b⟩ := p
                    rw [hO] at HP
                    have HO := Lib.hid (show R = ((⟨4, 0, ⟨#[]⟩, 0, 0, 0, 0, 0, 0, a, b⟩ : Ev), 0, 0) by rw [hR]; unfold blkO; rw [hO])
                    clear hR hO
                    go_wp2_with fail
                    refine (HP.out _).mono ?_
                    rintro e w6 ⟨rfl, hb⟩
                    simp only [Ad.pblV]
                    have E6 := Lib.hid (E5.out.belowX hb)
                    have P6 := Lib.hid (P5.out.belowX hb)
                    have B6 := Lib.hid (B5.out.trans (hb.mono B5.out.size))
                    have D6 := Lib.hid (D5.out.trans (hb.mono D5.out.size))
                    clear hb
                    have E7 := Lib.hid (E6.out.belowX ((Below.refl _ w6).alloc (Nat.le_refl _) (.cells #[.int .u32 a, .int .i64 b] 36)))
                    have P7 := Lib.hid (P6.out.belowX ((Below.refl _ w6).alloc (Nat.le_refl _) (.cells #[.int .u32 a, .int .i64 b] 36)))
                    have B7 := Lib.hid (B6.out.alloc B6.out.size (.cells #[.int .u32 a, .int .i64 b] 36))
                    go_wp2_with (first | (refine at_put 36 _ _ w1.heap.size [.int .i64 4, .int .u32 0, .string ⟨#[]⟩, .int .u8 0, .int .u8 0, .int .u8 0, .int .u8 0, .int .u8 0, .int .u8 0] [.int .u32 0, .int .i64 0] [.int .u32 a, .int .i64 b] [.int .i64 0, .int .u8 0, .int .u8 0, .int .u8 0, .int .u8 0, .int .u8 0, .int .u8 0, .int .i64 0] E7.out rfl size36 (by simp [Value.oneCell']) rfl rfl rfl rfl ?_; intro w8 Y8 C8 G8; have E8 := Lib.hid (show Cx w8 w1.heap.size (evl (⟨4, 0, ⟨#[]⟩, 0, 0, 0, 0, 0, 0, a, b⟩ : Ev)) from Y8.out); have P8 := Lib.hid (P7.out.keep (C8.out _ (Nat.le_refl _)) LP.out); have B8 := Lib.hid (B7.out.trans (C8.out _ L1.out))) | (refine at_load41 _ w1.heap.size (⟨4, 0, ⟨#[]⟩, 0, 0, 0, 0, 0, 0, a, b⟩ : Ev) E8.out rfl rfl rfl ?_) | (refine at_store41 _ _ w.heap.size zev (⟨4, 0, ⟨#[]⟩, 0, 0, 0, 0, 0, 0, a, b⟩ : Ev) P8.out rfl rfl rfl rfl ?_; intro wy PY BY GY))
                    refine bodyPost_ret (results_cell3 rfl _ _ _ _ _ _ rfl rfl rfl (loadv41 PY.out)) rfl ?_
                    exact ⟨by (rw [HO.out]; first | done | rfl), B8.out.trans (BY.out _ (Nat.le_refl _))⟩
                · have h3' : (kk == 3) = false := by simpa using h3
                  have h4' : (kk == 4) = false := by simpa using h4
                  replace hR := hR.trans (if_neg (by rw [h3', h4']; decide))
                  have HP := Lib.hid fun W => Ad.parse_any X1 W hsz1
                  have c1 := keepCB D5.out hg1 (HCF.out 1 x1 rfl)
                  rw [HV1.out] at c1
                  cases hO : Ad.parseO X1.data.toList with
                  | none =>
                    rw [hO] at HP
                    have HO := Lib.hid (show R = (zev, 1, 1) by rw [hR]; unfold ho2; rw [hO])
                    clear hR hO
                    go_wp2_with fail
                    refine (HP.out _).mono ?_
                    rintro e w6 ⟨rfl, hb⟩
                    simp only [Ad.parseV]
                    have E6 := Lib.hid (E5.out.belowX hb)
                    have P6 := Lib.hid (P5.out.belowX hb)
                    have B6 := Lib.hid (B5.out.trans (hb.mono B5.out.size))
                    have D6 := Lib.hid (D5.out.trans (hb.mono D5.out.size))
                    clear hb
                    go_wp2_with (first | (refine at_store41 _ _ w.heap.size zev zev P6.out rfl rfl rfl rfl ?_; intro wy PY BY GY))
                    refine bodyPost_ret (results_cell3 rfl _ _ _ _ _ _ rfl rfl rfl (loadv41 PY.out)) rfl ?_
                    exact ⟨by (rw [HO.out]; first | done | rfl), B6.out.trans (BY.out _ (Nat.le_refl _))⟩
                  | some a =>
                    rw [hO] at HP
                    have HO := Lib.hid (show R = ((⟨kk, a, ⟨#[]⟩, 0, 0, 0, 0, 0, 0, 0, 0⟩ : Ev), 0, 0) by rw [hR]; unfold ho2; rw [hO])
                    clear hR hO
                    go_wp2_with fail
                    refine (HP.out _).mono ?_
                    rintro e w6 ⟨rfl, hb⟩
                    simp only [Ad.parseV]
                    have E6 := Lib.hid (E5.out.belowX hb)
                    have P6 := Lib.hid (P5.out.belowX hb)
                    have B6 := Lib.hid (B5.out.trans (hb.mono B5.out.size))
                    have D6 := Lib.hid (D5.out.trans (hb.mono D5.out.size))
                    clear hb
                    go_wp2_with (first | (refine at_put1 30 _ _ w1.heap.size [.int .i64 kk] (.int .u32 0) (.int .u32 a) [.string ⟨#[]⟩, .int .u8 0, .int .u8 0, .int .u8 0, .int .u8 0, .int .u8 0, .int .u8 0, .int .u32 0, .int .i64 0, .int .i64 0, .int .u8 0, .int .u8 0, .int .u8 0, .int .u8 0, .int .u8 0, .int .u8 0, .int .i64 0] E6.out size30 rfl rfl rfl rfl rfl rfl ?_; intro w7 Y7 C7 G7; have E7 := Lib.hid (show Cx w7 w1.heap.size (evl (⟨kk, a, ⟨#[]⟩, 0, 0, 0, 0, 0, 0, 0, 0⟩ : Ev)) from Y7.out); have e7 := E7.out.key 0 _ rfl; have P7 := Lib.hid (P6.out.keep (C7.out _ (Nat.le_refl _)) LP.out); have B7 := Lib.hid (B6.out.trans (C7.out _ L1.out)); have D7 := Lib.hid (D6.out.trans (C7.out _ (Nat.le_refl _)))) | (refine at_load41 _ w1.heap.size (⟨kk, a, ⟨#[]⟩, 0, 0, 0, 0, 0, 0, 0, 0⟩ : Ev) E7.out rfl rfl rfl ?_) | (refine at_store41 _ _ w.heap.size zev (⟨kk, a, ⟨#[]⟩, 0, 0, 0, 0, 0, 0, 0, 0⟩ : Ev) P7.out rfl rfl rfl rfl ?_; intro wy PY BY GY))
                    refine bodyPost_ret (results_cell3 rfl _ _ _ _ _ _ rfl rfl rfl (loadv41 PY.out)) rfl ?_
                    exact ⟨by (rw [HO.out]; first | done | rfl), B7.out.trans (BY.out _ (Nat.le_refl _))⟩
            · obtain rfl : n = 3 := HN.out.symm
              obtain rfl : kk = 1 := by
                by_cases e : kk = 1
                · exact e
                · exact absurd (show hiW kk < _ by rw [show hiW kk = 2 from if_neg e]; decide) hh
              obtain ⟨X1, hX1⟩ : ∃ X : ByteArray, X = ⟨x1.toArray⟩ := ⟨_, rfl⟩
              have HV1 := Lib.hid (show sv x1 = .string X1 by rw [hX1]; rfl)
              have hsz1 : X1.size ≤ maxLen := by rw [hX1]; exact HSZ.out x1 (by simp)
              obtain ⟨X2, hX2⟩ : ∃ X : ByteArray, X = ⟨x2.toArray⟩ := ⟨_, rfl⟩
              have HV2 := Lib.hid (show sv x2 = .string X2 by rw [hX2]; rfl)
              have hsz2 : X2.size ≤ maxLen := by rw [hX2]; exact HSZ.out x2 (by simp)
              dsimp only at hR
              rw [hkx, ← hX1, ← hX2] at hR
              clear hl hh hlo hlo2 hhi4 hX1 hX2
              have HP := Lib.hid fun W => Ad.parse_any X1 W hsz1
              have c1 := keepCB D5.out hg1 (HCF.out 1 x1 rfl)
              rw [HV1.out] at c1
              cases hO : Ad.parseO X1.data.toList with
              | none =>
                rw [hO] at HP
                have HO := Lib.hid (show R = (zev, 1, 1) by rw [hR]; unfold ho3; rw [hO])
                clear hR hO
                go_wp2_with fail
                refine (HP.out _).mono ?_
                rintro e w6 ⟨rfl, hb⟩
                simp only [Ad.parseV]
                have E6 := Lib.hid (E5.out.belowX hb)
                have P6 := Lib.hid (P5.out.belowX hb)
                have B6 := Lib.hid (B5.out.trans (hb.mono B5.out.size))
                have D6 := Lib.hid (D5.out.trans (hb.mono D5.out.size))
                clear hb
                go_wp2_with (first | (refine at_store41 _ _ w.heap.size zev zev P6.out rfl rfl rfl rfl ?_; intro wy PY BY GY))
                refine bodyPost_ret (results_cell3 rfl _ _ _ _ _ _ rfl rfl rfl (loadv41 PY.out)) rfl ?_
                exact ⟨by (rw [HO.out]; first | done | rfl), B6.out.trans (BY.out _ (Nat.le_refl _))⟩
              | some a =>
                rw [hO] at HP
                have HM := Lib.hid fun W => Hd.may_any X2 W (by unfold maxLen at hsz2; omega)
                replace hR := hR.trans (by unfold ho3; rw [hO])
                clear hO
                cases hM : Hd.mayB X2
                · rw [hM] at HM
                  have HO := Lib.hid (show R = (zev, 2, 3) by rw [hR]; simp [hM])
                  clear hR hM
                  go_wp2_with fail
                  refine (HP.out _).mono ?_
                  rintro e w6 ⟨rfl, hb⟩
                  simp only [Ad.parseV]
                  have E6 := Lib.hid (E5.out.belowX hb)
                  have P6 := Lib.hid (P5.out.belowX hb)
                  have B6 := Lib.hid (B5.out.trans (hb.mono B5.out.size))
                  have D6 := Lib.hid (D5.out.trans (hb.mono D5.out.size))
                  clear hb
                  go_wp2_with (refine at_put1 30 _ _ w1.heap.size [.int .i64 1] (.int .u32 0) (.int .u32 a) [.string ⟨#[]⟩, .int .u8 0, .int .u8 0, .int .u8 0, .int .u8 0, .int .u8 0, .int .u8 0, .int .u32 0, .int .i64 0, .int .i64 0, .int .u8 0, .int .u8 0, .int .u8 0, .int .u8 0, .int .u8 0, .int .u8 0, .int .i64 0] E6.out size30 rfl rfl rfl rfl rfl rfl ?_; intro w7 Y7 C7 G7; have E7 := Lib.hid (show Cx w7 w1.heap.size (evl (⟨1, a, ⟨#[]⟩, 0, 0, 0, 0, 0, 0, 0, 0⟩ : Ev)) from Y7.out); have e7 := E7.out.key 0 _ rfl; have P7 := Lib.hid (P6.out.keep (C7.out _ (Nat.le_refl _)) LP.out); have B7 := Lib.hid (B6.out.trans (C7.out _ L1.out)); have D7 := Lib.hid (D6.out.trans (C7.out _ (Nat.le_refl _))); have c2x7 := keepCB D7.out hg1 (HCF.out 2 x2 rfl); rw [HV2.out] at c2x7)
                  refine (HM.out _).mono ?_
                  rintro e wm ⟨rfl, rfl⟩
                  go_wp2_with (first | (refine at_store41 _ _ w.heap.size zev zev P7.out rfl rfl rfl rfl ?_; intro wy PY BY GY))
                  refine bodyPost_ret (results_cell3 rfl _ _ _ _ _ _ rfl rfl rfl (loadv41 PY.out)) rfl ?_
                  exact ⟨by (rw [HO.out]; first | done | rfl), B7.out.trans (BY.out _ (Nat.le_refl _))⟩
                · rw [hM] at HM
                  have HO := Lib.hid (show R = ((⟨1, a, X2, 0, 0, 0, 0, 0, 0, 0, 0⟩ : Ev), 0, 0) by rw [hR]; simp [hM])
                  clear hR hM
                  go_wp2_with fail
                  refine (HP.out _).mono ?_
                  rintro e w6 ⟨rfl, hb⟩
                  simp only [Ad.parseV]
                  have E6 := Lib.hid (E5.out.belowX hb)
                  have P6 := Lib.hid (P5.out.belowX hb)
                  have B6 := Lib.hid (B5.out.trans (hb.mono B5.out.size))
                  have D6 := Lib.hid (D5.out.trans (hb.mono D5.out.size))
                  clear hb
                  go_wp2_with (refine at_put1 30 _ _ w1.heap.size [.int .i64 1] (.int .u32 0) (.int .u32 a) [.string ⟨#[]⟩, .int .u8 0, .int .u8 0, .int .u8 0, .int .u8 0, .int .u8 0, .int .u8 0, .int .u32 0, .int .i64 0, .int .i64 0, .int .u8 0, .int .u8 0, .int .u8 0, .int .u8 0, .int .u8 0, .int .u8 0, .int .i64 0] E6.out size30 rfl rfl rfl rfl rfl rfl ?_; intro w7 Y7 C7 G7; have E7 := Lib.hid (show Cx w7 w1.heap.size (evl (⟨1, a, ⟨#[]⟩, 0, 0, 0, 0, 0, 0, 0, 0⟩ : Ev)) from Y7.out); have e7 := E7.out.key 0 _ rfl; have P7 := Lib.hid (P6.out.keep (C7.out _ (Nat.le_refl _)) LP.out); have B7 := Lib.hid (B6.out.trans (C7.out _ L1.out)); have D7 := Lib.hid (D6.out.trans (C7.out _ (Nat.le_refl _))); have c2x7 := keepCB D7.out hg1 (HCF.out 2 x2 rfl); rw [HV2.out] at c2x7)
                  refine (HM.out _).mono ?_
                  rintro e wm ⟨rfl, rfl⟩
                  go_wp2_with (first | (refine at_put1 9 _ _ w1.heap.size [.int .i64 1, .int .u32 a] (.string ⟨#[]⟩) (.string X2) [.int .u8 0, .int .u8 0, .int .u8 0, .int .u8 0, .int .u8 0, .int .u8 0, .int .u32 0, .int .i64 0, .int .i64 0, .int .u8 0, .int .u8 0, .int .u8 0, .int .u8 0, .int .u8 0, .int .u8 0, .int .i64 0] E7.out size9 rfl rfl rfl rfl rfl rfl ?_; intro w8 Y8 C8 G8; have E8 := Lib.hid (show Cx w8 w1.heap.size (evl (⟨1, a, X2, 0, 0, 0, 0, 0, 0, 0, 0⟩ : Ev)) from Y8.out); have e8 := E8.out.key 0 _ rfl; have P8 := Lib.hid (P7.out.keep (C8.out _ (Nat.le_refl _)) LP.out); have B8 := Lib.hid (B7.out.trans (C8.out _ L1.out)); have D8 := Lib.hid (D7.out.trans (C8.out _ (Nat.le_refl _)))) | (refine at_load41 _ w1.heap.size (⟨1, a, X2, 0, 0, 0, 0, 0, 0, 0, 0⟩ : Ev) E8.out rfl rfl rfl ?_) | (refine at_store41 _ _ w.heap.size zev (⟨1, a, X2, 0, 0, 0, 0, 0, 0, 0, 0⟩ : Ev) P8.out rfl rfl rfl rfl ?_; intro wy PY BY GY))
                  refine bodyPost_ret (results_cell3 rfl _ _ _ _ _ _ rfl rfl rfl (loadv41 PY.out)) rfl ?_
                  exact ⟨by (rw [HO.out]; first | done | rfl), B8.out.trans (BY.out _ (Nat.le_refl _))⟩
            · obtain rfl : n = 4 := HN.out.symm
              obtain rfl : kk = 1 := by
                by_cases e : kk = 1
                · exact e
                · exact absurd (show hiW kk < _ by rw [show hiW kk = 2 from if_neg e]; decide) hh
              obtain ⟨X1, hX1⟩ : ∃ X : ByteArray, X = ⟨x1.toArray⟩ := ⟨_, rfl⟩
              have HV1 := Lib.hid (show sv x1 = .string X1 by rw [hX1]; rfl)
              have hsz1 : X1.size ≤ maxLen := by rw [hX1]; exact HSZ.out x1 (by simp)
              obtain ⟨X2, hX2⟩ : ∃ X : ByteArray, X = ⟨x2.toArray⟩ := ⟨_, rfl⟩
              have HV2 := Lib.hid (show sv x2 = .string X2 by rw [hX2]; rfl)
              have hsz2 : X2.size ≤ maxLen := by rw [hX2]; exact HSZ.out x2 (by simp)
              obtain ⟨X3, hX3⟩ : ∃ X : ByteArray, X = ⟨x3.toArray⟩ := ⟨_, rfl⟩
              have HV3 := Lib.hid (show sv x3 = .string X3 by rw [hX3]; rfl)
              have hsz3 : X3.size ≤ maxLen := by rw [hX3]; exact HSZ.out x3 (by simp)
              dsimp only at hR
              rw [hkx, ← hX1, ← hX2, ← hX3] at hR
              clear hl hh hlo hlo2 hhi4 hX1 hX2 hX3
              have HP := Lib.hid fun W => Ad.parse_any X1 W hsz1
              have c1 := keepCB D5.out hg1 (HCF.out 1 x1 rfl)
              rw [HV1.out] at c1
              cases hO : Ad.parseO X1.data.toList with
              | none =>
                rw [hO] at HP
                have HO := Lib.hid (show R = (zev, 1, 1) by rw [hR]; unfold ho4; rw [hO])
                clear hR hO
                go_wp2_with fail
                refine (HP.out _).mono ?_
                rintro e w6 ⟨rfl, hb⟩
                simp only [Ad.parseV]
                have E6 := Lib.hid (E5.out.belowX hb)
                have P6 := Lib.hid (P5.out.belowX hb)
                have B6 := Lib.hid (B5.out.trans (hb.mono B5.out.size))
                have D6 := Lib.hid (D5.out.trans (hb.mono D5.out.size))
                clear hb
                go_wp2_with (first | (refine at_store41 _ _ w.heap.size zev zev P6.out rfl rfl rfl rfl ?_; intro wy PY BY GY))
                refine bodyPost_ret (results_cell3 rfl _ _ _ _ _ _ rfl rfl rfl (loadv41 PY.out)) rfl ?_
                exact ⟨by (rw [HO.out]; first | done | rfl), B6.out.trans (BY.out _ (Nat.le_refl _))⟩
              | some a =>
                rw [hO] at HP
                have HM := Lib.hid fun W => Hd.may_any X2 W (by unfold maxLen at hsz2; omega)
                replace hR := hR.trans (by unfold ho4; rw [hO])
                clear hO
                cases hM : Hd.mayB X2
                · rw [hM] at HM
                  have HO := Lib.hid (show R = (zev, 2, 3) by rw [hR]; simp [hM])
                  clear hR hM
                  go_wp2_with fail
                  refine (HP.out _).mono ?_
                  rintro e w6 ⟨rfl, hb⟩
                  simp only [Ad.parseV]
                  have E6 := Lib.hid (E5.out.belowX hb)
                  have P6 := Lib.hid (P5.out.belowX hb)
                  have B6 := Lib.hid (B5.out.trans (hb.mono B5.out.size))
                  have D6 := Lib.hid (D5.out.trans (hb.mono D5.out.size))
                  clear hb
                  go_wp2_with (refine at_put1 30 _ _ w1.heap.size [.int .i64 1] (.int .u32 0) (.int .u32 a) [.string ⟨#[]⟩, .int .u8 0, .int .u8 0, .int .u8 0, .int .u8 0, .int .u8 0, .int .u8 0, .int .u32 0, .int .i64 0, .int .i64 0, .int .u8 0, .int .u8 0, .int .u8 0, .int .u8 0, .int .u8 0, .int .u8 0, .int .i64 0] E6.out size30 rfl rfl rfl rfl rfl rfl ?_; intro w7 Y7 C7 G7; have E7 := Lib.hid (show Cx w7 w1.heap.size (evl (⟨1, a, ⟨#[]⟩, 0, 0, 0, 0, 0, 0, 0, 0⟩ : Ev)) from Y7.out); have e7 := E7.out.key 0 _ rfl; have P7 := Lib.hid (P6.out.keep (C7.out _ (Nat.le_refl _)) LP.out); have B7 := Lib.hid (B6.out.trans (C7.out _ L1.out)); have D7 := Lib.hid (D6.out.trans (C7.out _ (Nat.le_refl _))); have c2x7 := keepCB D7.out hg1 (HCF.out 2 x2 rfl); rw [HV2.out] at c2x7)
                  refine (HM.out _).mono ?_
                  rintro e wm ⟨rfl, rfl⟩
                  go_wp2_with (first | (refine at_store41 _ _ w.heap.size zev zev P7.out rfl rfl rfl rfl ?_; intro wy PY BY GY))
                  refine bodyPost_ret (results_cell3 rfl _ _ _ _ _ _ rfl rfl rfl (loadv41 PY.out)) rfl ?_
                  exact ⟨by (rw [HO.out]; first | done | rfl), B7.out.trans (BY.out _ (Nat.le_refl _))⟩
                · rw [hM] at HM
                  replace hR := hR.trans (if_pos hM)
                  clear hM
                  cases hK : Mc.okB X3
                  · have HK := Lib.hid fun W => Mc.parse_no X3 W hK
                    have HO := Lib.hid (show R = (zev, 3, 1) by rw [hR]; simp [hK])
                    clear hR hK
                    go_wp2_with fail
                    refine (HP.out _).mono ?_
                    rintro e w6 ⟨rfl, hb⟩
                    simp only [Ad.parseV]
                    have E6 := Lib.hid (E5.out.belowX hb)
                    have P6 := Lib.hid (P5.out.belowX hb)
                    have B6 := Lib.hid (B5.out.trans (hb.mono B5.out.size))
                    have D6 := Lib.hid (D5.out.trans (hb.mono D5.out.size))
                    clear hb
                    go_wp2_with (refine at_put1 30 _ _ w1.heap.size [.int .i64 1] (.int .u32 0) (.int .u32 a) [.string ⟨#[]⟩, .int .u8 0, .int .u8 0, .int .u8 0, .int .u8 0, .int .u8 0, .int .u8 0, .int .u32 0, .int .i64 0, .int .i64 0, .int .u8 0, .int .u8 0, .int .u8 0, .int .u8 0, .int .u8 0, .int .u8 0, .int .i64 0] E6.out size30 rfl rfl rfl rfl rfl rfl ?_; intro w7 Y7 C7 G7; have E7 := Lib.hid (show Cx w7 w1.heap.size (evl (⟨1, a, ⟨#[]⟩, 0, 0, 0, 0, 0, 0, 0, 0⟩ : Ev)) from Y7.out); have e7 := E7.out.key 0 _ rfl; have P7 := Lib.hid (P6.out.keep (C7.out _ (Nat.le_refl _)) LP.out); have B7 := Lib.hid (B6.out.trans (C7.out _ L1.out)); have D7 := Lib.hid (D6.out.trans (C7.out _ (Nat.le_refl _))); have c2x7 := keepCB D7.out hg1 (HCF.out 2 x2 rfl); rw [HV2.out] at c2x7)
                    refine (HM.out _).mono ?_
                    rintro e wm ⟨rfl, rfl⟩
                    go_wp2_with (refine at_put1 9 _ _ w1.heap.size [.int .i64 1, .int .u32 a] (.string ⟨#[]⟩) (.string X2) [.int .u8 0, .int .u8 0, .int .u8 0, .int .u8 0, .int .u8 0, .int .u8 0, .int .u32 0, .int .i64 0, .int .i64 0, .int .u8 0, .int .u8 0, .int .u8 0, .int .u8 0, .int .u8 0, .int .u8 0, .int .i64 0] E7.out size9 rfl rfl rfl rfl rfl rfl ?_; intro w8 Y8 C8 G8; have E8 := Lib.hid (show Cx w8 w1.heap.size (evl (⟨1, a, X2, 0, 0, 0, 0, 0, 0, 0, 0⟩ : Ev)) from Y8.out); have e8 := E8.out.key 0 _ rfl; have P8 := Lib.hid (P7.out.keep (C8.out _ (Nat.le_refl _)) LP.out); have B8 := Lib.hid (B7.out.trans (C8.out _ L1.out)); have D8 := Lib.hid (D7.out.trans (C8.out _ (Nat.le_refl _))); have c3x8 := keepCB D8.out hg1 (HCF.out 3 x3 rfl); rw [HV3.out] at c3x8)
                    refine (HK.out _).mono ?_
                    rintro e w9 ⟨rfl, hb⟩
                    have E9 := Lib.hid (E8.out.belowX hb)
                    have P9 := Lib.hid (P8.out.belowX hb)
                    have B9 := Lib.hid (B8.out.trans (hb.mono B8.out.size))
                    have D9 := Lib.hid (D8.out.trans (hb.mono D8.out.size))
                    clear hb
                    have E10 := Lib.hid (E9.out.belowX ((Below.refl _ w9).alloc (Nat.le_refl _) (.cells #[.int .u8 0, .int .u8 0, .int .u8 0, .int .u8 0, .int .u8 0, .int .u8 0] 32)))
                    have P10 := Lib.hid (P9.out.belowX ((Below.refl _ w9).alloc (Nat.le_refl _) (.cells #[.int .u8 0, .int .u8 0, .int .u8 0, .int .u8 0, .int .u8 0, .int .u8 0] 32)))
                    have B10 := Lib.hid (B9.out.alloc B9.out.size (.cells #[.int .u8 0, .int .u8 0, .int .u8 0, .int .u8 0, .int .u8 0, .int .u8 0] 32))
                    have D10 := Lib.hid (D9.out.alloc D9.out.size (.cells #[.int .u8 0, .int .u8 0, .int .u8 0, .int .u8 0, .int .u8 0, .int .u8 0] 32))
                    go_wp2_with (first | (refine at_store41 _ _ w.heap.size zev zev P10.out rfl rfl rfl rfl ?_; intro wy PY BY GY))
                    refine bodyPost_ret (results_cell3 rfl _ _ _ _ _ _ rfl rfl rfl (loadv41 PY.out)) rfl ?_
                    exact ⟨by (rw [HO.out]; first | done | rfl), B10.out.trans (BY.out _ (Nat.le_refl _))⟩
                  · have HK := Lib.hid fun W => Mc.parse_yes X3 W hK
                    replace hR := hR.trans (if_pos hK)
                    unfold badB at hR
                    have hm := Mc.mb_bd X3 0
                    have HNN := Lib.hid fun W => Mc.none_any (Mc.mb X3 0) (Mc.mb X3 1) (Mc.mb X3 2) (Mc.mb X3 3) (Mc.mb X3 4) (Mc.mb X3 5) W
                    have HG := Lib.hid fun W => Mc.group_any (Mc.mb X3 0) (Mc.mb X3 1) (Mc.mb X3 2) (Mc.mb X3 3) (Mc.mb X3 4) (Mc.mb X3 5) W hm.1 hm.2
                    generalize Mc.eq6 (Mc.mb X3 0) (Mc.mb X3 1) (Mc.mb X3 2) (Mc.mb X3 3) (Mc.mb X3 4) (Mc.mb X3 5) 0 0 0 0 0 0 = NN at *
                    generalize (Mc.mb X3 0 % 2 == 1) = GG at *
                    generalize Mc.mb X3 0 = m0 at *
                    generalize Mc.mb X3 1 = m1 at *
                    generalize Mc.mb X3 2 = m2 at *
                    generalize Mc.mb X3 3 = m3 at *
                    generalize Mc.mb X3 4 = m4 at *
                    generalize Mc.mb X3 5 = m5 at *
                    clear hm hK
                    cases NN
                    · cases GG
                      · have HO := Lib.hid (hR.trans (if_neg (by decide)))
                        clear hR
                        go_wp2_with fail
                        refine (HP.out _).mono ?_
                        rintro e w6 ⟨rfl, hb⟩
                        simp only [Ad.parseV]
                        have E6 := Lib.hid (E5.out.belowX hb)
                        have P6 := Lib.hid (P5.out.belowX hb)
                        have B6 := Lib.hid (B5.out.trans (hb.mono B5.out.size))
                        have D6 := Lib.hid (D5.out.trans (hb.mono D5.out.size))
                        clear hb
                        go_wp2_with (refine at_put1 30 _ _ w1.heap.size [.int .i64 1] (.int .u32 0) (.int .u32 a) [.string ⟨#[]⟩, .int .u8 0, .int .u8 0, .int .u8 0, .int .u8 0, .int .u8 0, .int .u8 0, .int .u32 0, .int .i64 0, .int .i64 0, .int .u8 0, .int .u8 0, .int .u8 0, .int .u8 0, .int .u8 0, .int .u8 0, .int .i64 0] E6.out size30 rfl rfl rfl rfl rfl rfl ?_; intro w7 Y7 C7 G7; have E7 := Lib.hid (show Cx w7 w1.heap.size (evl (⟨1, a, ⟨#[]⟩, 0, 0, 0, 0, 0, 0, 0, 0⟩ : Ev)) from Y7.out); have e7 := E7.out.key 0 _ rfl; have P7 := Lib.hid (P6.out.keep (C7.out _ (Nat.le_refl _)) LP.out); have B7 := Lib.hid (B6.out.trans (C7.out _ L1.out)); have D7 := Lib.hid (D6.out.trans (C7.out _ (Nat.le_refl _))); have c2x7 := keepCB D7.out hg1 (HCF.out 2 x2 rfl); rw [HV2.out] at c2x7)
                        refine (HM.out _).mono ?_
                        rintro e wm ⟨rfl, rfl⟩
                        go_wp2_with (refine at_put1 9 _ _ w1.heap.size [.int .i64 1, .int .u32 a] (.string ⟨#[]⟩) (.string X2) [.int .u8 0, .int .u8 0, .int .u8 0, .int .u8 0, .int .u8 0, .int .u8 0, .int .u32 0, .int .i64 0, .int .i64 0, .int .u8 0, .int .u8 0, .int .u8 0, .int .u8 0, .int .u8 0, .int .u8 0, .int .i64 0] E7.out size9 rfl rfl rfl rfl rfl rfl ?_; intro w8 Y8 C8 G8; have E8 := Lib.hid (show Cx w8 w1.heap.size (evl (⟨1, a, X2, 0, 0, 0, 0, 0, 0, 0, 0⟩ : Ev)) from Y8.out); have e8 := E8.out.key 0 _ rfl; have P8 := Lib.hid (P7.out.keep (C8.out _ (Nat.le_refl _)) LP.out); have B8 := Lib.hid (B7.out.trans (C8.out _ L1.out)); have D8 := Lib.hid (D7.out.trans (C8.out _ (Nat.le_refl _))); have c3x8 := keepCB D8.out hg1 (HCF.out 3 x3 rfl); rw [HV3.out] at c3x8)
                        refine (HK.out _).mono ?_
                        rintro e w9 ⟨rfl, hb⟩
                        have E9 := Lib.hid (E8.out.belowX hb)
                        have P9 := Lib.hid (P8.out.belowX hb)
                        have B9 := Lib.hid (B8.out.trans (hb.mono B8.out.size))
                        have D9 := Lib.hid (D8.out.trans (hb.mono D8.out.size))
                        clear hb
                        have E10 := Lib.hid (E9.out.belowX ((Below.refl _ w9).alloc (Nat.le_refl _) (.cells #[.int .u8 m0, .int .u8 m1, .int .u8 m2, .int .u8 m3, .int .u8 m4, .int .u8 m5] 32)))
                        have P10 := Lib.hid (P9.out.belowX ((Below.refl _ w9).alloc (Nat.le_refl _) (.cells #[.int .u8 m0, .int .u8 m1, .int .u8 m2, .int .u8 m3, .int .u8 m4, .int .u8 m5] 32)))
                        have B10 := Lib.hid (B9.out.alloc B9.out.size (.cells #[.int .u8 m0, .int .u8 m1, .int .u8 m2, .int .u8 m3, .int .u8 m4, .int .u8 m5] 32))
                        have D10 := Lib.hid (D9.out.alloc D9.out.size (.cells #[.int .u8 m0, .int .u8 m1, .int .u8 m2, .int .u8 m3, .int .u8 m4, .int .u8 m5] 32))
                        have M10 := Lib.hid (cx_box w9 [.int .u8 m0, .int .u8 m1, .int .u8 m2, .int .u8 m3, .int .u8 m4, .int .u8 m5] #[.int .u8 m0, .int .u8 m1, .int .u8 m2, .int .u8 m3, .int .u8 m4, .int .u8 m5] 32 rfl)
                        go_wp2_with fail
                        refine (HNN.out _).mono ?_
                        rintro e w11 ⟨rfl, hb⟩
                        have E11 := Lib.hid (E10.out.belowX hb)
                        have P11 := Lib.hid (P10.out.belowX hb)
                        have B11 := Lib.hid (B10.out.trans (hb.mono B10.out.size))
                        have M11 := Lib.hid (show Cx w11 w9.heap.size [.int .u8 m0, .int .u8 m1, .int .u8 m2, .int .u8 m3, .int .u8 m4, .int .u8 m5] from M10.out.keep hb (Cx.lt M10.out))
                        clear hb
                        have em0 := M11.out.key 0 _ rfl
                        have em1 := M11.out.key 1 _ rfl
                        have em2 := M11.out.key 2 _ rfl
                        have em3 := M11.out.key 3 _ rfl
                        have em4 := M11.out.key 4 _ rfl
                        have em5 := M11.out.key 5 _ rfl
                        go_wp2_with fail
                        refine (HG.out _).mono ?_
                        rintro e w12 ⟨rfl, hb⟩
                        clear em0 em1 em2 em3 em4 em5
                        have E12 := Lib.hid (E11.out.belowX hb)
                        have P12 := Lib.hid (P11.out.belowX hb)
                        have B12 := Lib.hid (B11.out.trans (hb.mono B11.out.size))
                        have M12 := Lib.hid (show Cx w12 w9.heap.size [.int .u8 m0, .int .u8 m1, .int .u8 m2, .int .u8 m3, .int .u8 m4, .int .u8 m5] from M11.out.keep hb (Cx.lt M11.out))
                        clear hb
                        go_wp2_with (first | (refine at_get 32 _ _ w9.heap.size [] [.int .u8 m0, .int .u8 m1, .int .u8 m2, .int .u8 m3, .int .u8 m4, .int .u8 m5] [] (by simpa using M12.out) Tryd.underlying32 rfl size32 rfl rfl rfl ?_) | (refine at_put 32 _ _ w1.heap.size [.int .i64 1, .int .u32 a, .string X2] [.int .u8 0, .int .u8 0, .int .u8 0, .int .u8 0, .int .u8 0, .int .u8 0] [.int .u8 m0, .int .u8 m1, .int .u8 m2, .int .u8 m3, .int .u8 m4, .int .u8 m5] [.int .u32 0, .int .i64 0, .int .i64 0, .int .u8 0, .int .u8 0, .int .u8 0, .int .u8 0, .int .u8 0, .int .u8 0, .int .i64 0] E12.out rfl size32 (by simp [Value.oneCell']) rfl rfl rfl rfl ?_; intro w13 Y13 C13 G13; have E13 := Lib.hid (show Cx w13 w1.heap.size (evl (⟨1, a, X2, m0, m1, m2, m3, m4, m5, 0, 0⟩ : Ev)) from Y13.out); have P13 := Lib.hid (P12.out.keep (C13.out _ (Nat.le_refl _)) LP.out); have B13 := Lib.hid (B12.out.trans (C13.out _ L1.out))) | (refine at_load41 _ w1.heap.size (⟨1, a, X2, m0, m1, m2, m3, m4, m5, 0, 0⟩ : Ev) E13.out rfl rfl rfl ?_) | (refine at_store41 _ _ w.heap.size zev (⟨1, a, X2, m0, m1, m2, m3, m4, m5, 0, 0⟩ : Ev) P13.out rfl rfl rfl rfl ?_; intro wy PY BY GY))
                        refine bodyPost_ret (results_cell3 rfl _ _ _ _ _ _ rfl rfl rfl (loadv41 PY.out)) rfl ?_
                        exact ⟨by (rw [HO.out]; first | done | rfl), B13.out.trans (BY.out _ (Nat.le_refl _))⟩
                      · have HO := Lib.hid (hR.trans (if_pos rfl))
                        clear hR
                        go_wp2_with fail
                        refine (HP.out _).mono ?_
                        rintro e w6 ⟨rfl, hb⟩
                        simp only [Ad.parseV]
                        have E6 := Lib.hid (E5.out.belowX hb)
                        have P6 := Lib.hid (P5.out.belowX hb)
                        have B6 := Lib.hid (B5.out.trans (hb.mono B5.out.size))
                        have D6 := Lib.hid (D5.out.trans (hb.mono D5.out.size))
                        clear hb
                        go_wp2_with (refine at_put1 30 _ _ w1.heap.size [.int .i64 1] (.int .u32 0) (.int .u32 a) [.string ⟨#[]⟩, .int .u8 0, .int .u8 0, .int .u8 0, .int .u8 0, .int .u8 0, .int .u8 0, .int .u32 0, .int .i64 0, .int .i64 0, .int .u8 0, .int .u8 0, .int .u8 0, .int .u8 0, .int .u8 0, .int .u8 0, .int .i64 0] E6.out size30 rfl rfl rfl rfl rfl rfl ?_; intro w7 Y7 C7 G7; have E7 := Lib.hid (show Cx w7 w1.heap.size (evl (⟨1, a, ⟨#[]⟩, 0, 0, 0, 0, 0, 0, 0, 0⟩ : Ev)) from Y7.out); have e7 := E7.out.key 0 _ rfl; have P7 := Lib.hid (P6.out.keep (C7.out _ (Nat.le_refl _)) LP.out); have B7 := Lib.hid (B6.out.trans (C7.out _ L1.out)); have D7 := Lib.hid (D6.out.trans (C7.out _ (Nat.le_refl _))); have c2x7 := keepCB D7.out hg1 (HCF.out 2 x2 rfl); rw [HV2.out] at c2x7)
                        refine (HM.out _).mono ?_
                        rintro e wm ⟨rfl, rfl⟩
                        go_wp2_with (refine at_put1 9 _ _ w1.heap.size [.int .i64 1, .int .u32 a] (.string ⟨#[]⟩) (.string X2) [.int .u8 0, .int .u8 0, .int .u8 0, .int .u8 0, .int .u8 0, .int .u8 0, .int .u32 0, .int .i64 0, .int .i64 0, .int .u8 0, .int .u8 0, .int .u8 0, .int .u8 0, .int .u8 0, .int .u8 0, .int .i64 0] E7.out size9 rfl rfl rfl rfl rfl rfl ?_; intro w8 Y8 C8 G8; have E8 := Lib.hid (show Cx w8 w1.heap.size (evl (⟨1, a, X2, 0, 0, 0, 0, 0, 0, 0, 0⟩ : Ev)) from Y8.out); have e8 := E8.out.key 0 _ rfl; have P8 := Lib.hid (P7.out.keep (C8.out _ (Nat.le_refl _)) LP.out); have B8 := Lib.hid (B7.out.trans (C8.out _ L1.out)); have D8 := Lib.hid (D7.out.trans (C8.out _ (Nat.le_refl _))); have c3x8 := keepCB D8.out hg1 (HCF.out 3 x3 rfl); rw [HV3.out] at c3x8)
                        refine (HK.out _).mono ?_
                        rintro e w9 ⟨rfl, hb⟩
                        have E9 := Lib.hid (E8.out.belowX hb)
                        have P9 := Lib.hid (P8.out.belowX hb)
                        have B9 := Lib.hid (B8.out.trans (hb.mono B8.out.size))
                        have D9 := Lib.hid (D8.out.trans (hb.mono D8.out.size))
                        clear hb
                        have E10 := Lib.hid (E9.out.belowX ((Below.refl _ w9).alloc (Nat.le_refl _) (.cells #[.int .u8 m0, .int .u8 m1, .int .u8 m2, .int .u8 m3, .int .u8 m4, .int .u8 m5] 32)))
                        have P10 := Lib.hid (P9.out.belowX ((Below.refl _ w9).alloc (Nat.le_refl _) (.cells #[.int .u8 m0, .int .u8 m1, .int .u8 m2, .int .u8 m3, .int .u8 m4, .int .u8 m5] 32)))
                        have B10 := Lib.hid (B9.out.alloc B9.out.size (.cells #[.int .u8 m0, .int .u8 m1, .int .u8 m2, .int .u8 m3, .int .u8 m4, .int .u8 m5] 32))
                        have D10 := Lib.hid (D9.out.alloc D9.out.size (.cells #[.int .u8 m0, .int .u8 m1, .int .u8 m2, .int .u8 m3, .int .u8 m4, .int .u8 m5] 32))
                        have M10 := Lib.hid (cx_box w9 [.int .u8 m0, .int .u8 m1, .int .u8 m2, .int .u8 m3, .int .u8 m4, .int .u8 m5] #[.int .u8 m0, .int .u8 m1, .int .u8 m2, .int .u8 m3, .int .u8 m4, .int .u8 m5] 32 rfl)
                        go_wp2_with fail
                        refine (HNN.out _).mono ?_
                        rintro e w11 ⟨rfl, hb⟩
                        have E11 := Lib.hid (E10.out.belowX hb)
                        have P11 := Lib.hid (P10.out.belowX hb)
                        have B11 := Lib.hid (B10.out.trans (hb.mono B10.out.size))
                        have M11 := Lib.hid (show Cx w11 w9.heap.size [.int .u8 m0, .int .u8 m1, .int .u8 m2, .int .u8 m3, .int .u8 m4, .int .u8 m5] from M10.out.keep hb (Cx.lt M10.out))
                        clear hb
                        have em0 := M11.out.key 0 _ rfl
                        have em1 := M11.out.key 1 _ rfl
                        have em2 := M11.out.key 2 _ rfl
                        have em3 := M11.out.key 3 _ rfl
                        have em4 := M11.out.key 4 _ rfl
                        have em5 := M11.out.key 5 _ rfl
                        go_wp2_with fail
                        refine (HG.out _).mono ?_
                        rintro e w12 ⟨rfl, hb⟩
                        clear em0 em1 em2 em3 em4 em5
                        have E12 := Lib.hid (E11.out.belowX hb)
                        have P12 := Lib.hid (P11.out.belowX hb)
                        have B12 := Lib.hid (B11.out.trans (hb.mono B11.out.size))
                        have M12 := Lib.hid (show Cx w12 w9.heap.size [.int .u8 m0, .int .u8 m1, .int .u8 m2, .int .u8 m3, .int .u8 m4, .int .u8 m5] from M11.out.keep hb (Cx.lt M11.out))
                        clear hb
                        go_wp2_with (first | (refine at_store41 _ _ w.heap.size zev zev P12.out rfl rfl rfl rfl ?_; intro wy PY BY GY))
                        refine bodyPost_ret (results_cell3 rfl _ _ _ _ _ _ rfl rfl rfl (loadv41 PY.out)) rfl ?_
                        exact ⟨by (rw [HO.out]; first | done | rfl), B12.out.trans (BY.out _ (Nat.le_refl _))⟩
                    · have HO := Lib.hid (hR.trans (if_pos rfl))
                      clear hR
                      go_wp2_with fail
                      refine (HP.out _).mono ?_
                      rintro e w6 ⟨rfl, hb⟩
                      simp only [Ad.parseV]
                      have E6 := Lib.hid (E5.out.belowX hb)
                      have P6 := Lib.hid (P5.out.belowX hb)
                      have B6 := Lib.hid (B5.out.trans (hb.mono B5.out.size))
                      have D6 := Lib.hid (D5.out.trans (hb.mono D5.out.size))
                      clear hb
                      go_wp2_with (refine at_put1 30 _ _ w1.heap.size [.int .i64 1] (.int .u32 0) (.int .u32 a) [.string ⟨#[]⟩, .int .u8 0, .int .u8 0, .int .u8 0, .int .u8 0, .int .u8 0, .int .u8 0, .int .u32 0, .int .i64 0, .int .i64 0, .int .u8 0, .int .u8 0, .int .u8 0, .int .u8 0, .int .u8 0, .int .u8 0, .int .i64 0] E6.out size30 rfl rfl rfl rfl rfl rfl ?_; intro w7 Y7 C7 G7; have E7 := Lib.hid (show Cx w7 w1.heap.size (evl (⟨1, a, ⟨#[]⟩, 0, 0, 0, 0, 0, 0, 0, 0⟩ : Ev)) from Y7.out); have e7 := E7.out.key 0 _ rfl; have P7 := Lib.hid (P6.out.keep (C7.out _ (Nat.le_refl _)) LP.out); have B7 := Lib.hid (B6.out.trans (C7.out _ L1.out)); have D7 := Lib.hid (D6.out.trans (C7.out _ (Nat.le_refl _))); have c2x7 := keepCB D7.out hg1 (HCF.out 2 x2 rfl); rw [HV2.out] at c2x7)
                      refine (HM.out _).mono ?_
                      rintro e wm ⟨rfl, rfl⟩
                      go_wp2_with (refine at_put1 9 _ _ w1.heap.size [.int .i64 1, .int .u32 a] (.string ⟨#[]⟩) (.string X2) [.int .u8 0, .int .u8 0, .int .u8 0, .int .u8 0, .int .u8 0, .int .u8 0, .int .u32 0, .int .i64 0, .int .i64 0, .int .u8 0, .int .u8 0, .int .u8 0, .int .u8 0, .int .u8 0, .int .u8 0, .int .i64 0] E7.out size9 rfl rfl rfl rfl rfl rfl ?_; intro w8 Y8 C8 G8; have E8 := Lib.hid (show Cx w8 w1.heap.size (evl (⟨1, a, X2, 0, 0, 0, 0, 0, 0, 0, 0⟩ : Ev)) from Y8.out); have e8 := E8.out.key 0 _ rfl; have P8 := Lib.hid (P7.out.keep (C8.out _ (Nat.le_refl _)) LP.out); have B8 := Lib.hid (B7.out.trans (C8.out _ L1.out)); have D8 := Lib.hid (D7.out.trans (C8.out _ (Nat.le_refl _))); have c3x8 := keepCB D8.out hg1 (HCF.out 3 x3 rfl); rw [HV3.out] at c3x8)
                      refine (HK.out _).mono ?_
                      rintro e w9 ⟨rfl, hb⟩
                      have E9 := Lib.hid (E8.out.belowX hb)
                      have P9 := Lib.hid (P8.out.belowX hb)
                      have B9 := Lib.hid (B8.out.trans (hb.mono B8.out.size))
                      have D9 := Lib.hid (D8.out.trans (hb.mono D8.out.size))
                      clear hb
                      have E10 := Lib.hid (E9.out.belowX ((Below.refl _ w9).alloc (Nat.le_refl _) (.cells #[.int .u8 m0, .int .u8 m1, .int .u8 m2, .int .u8 m3, .int .u8 m4, .int .u8 m5] 32)))
                      have P10 := Lib.hid (P9.out.belowX ((Below.refl _ w9).alloc (Nat.le_refl _) (.cells #[.int .u8 m0, .int .u8 m1, .int .u8 m2, .int .u8 m3, .int .u8 m4, .int .u8 m5] 32)))
                      have B10 := Lib.hid (B9.out.alloc B9.out.size (.cells #[.int .u8 m0, .int .u8 m1, .int .u8 m2, .int .u8 m3, .int .u8 m4, .int .u8 m5] 32))
                      have D10 := Lib.hid (D9.out.alloc D9.out.size (.cells #[.int .u8 m0, .int .u8 m1, .int .u8 m2, .int .u8 m3, .int .u8 m4, .int .u8 m5] 32))
                      have M10 := Lib.hid (cx_box w9 [.int .u8 m0, .int .u8 m1, .int .u8 m2, .int .u8 m3, .int .u8 m4, .int .u8 m5] #[.int .u8 m0, .int .u8 m1, .int .u8 m2, .int .u8 m3, .int .u8 m4, .int .u8 m5] 32 rfl)
                      go_wp2_with fail
                      refine (HNN.out _).mono ?_
                      rintro e w11 ⟨rfl, hb⟩
                      have E11 := Lib.hid (E10.out.belowX hb)
                      have P11 := Lib.hid (P10.out.belowX hb)
                      have B11 := Lib.hid (B10.out.trans (hb.mono B10.out.size))
                      have M11 := Lib.hid (show Cx w11 w9.heap.size [.int .u8 m0, .int .u8 m1, .int .u8 m2, .int .u8 m3, .int .u8 m4, .int .u8 m5] from M10.out.keep hb (Cx.lt M10.out))
                      clear hb
                      go_wp2_with (first | (refine at_store41 _ _ w.heap.size zev zev P11.out rfl rfl rfl rfl ?_; intro wy PY BY GY))
                      refine bodyPost_ret (results_cell3 rfl _ _ _ _ _ _ rfl rfl rfl (loadv41 PY.out)) rfl ?_
                      exact ⟨by (rw [HO.out]; first | done | rfl), B11.out.trans (BY.out _ (Nat.le_refl _))⟩
            · exfalso; have := HN.out; simp at this; omega
theorem pa_any (s : ByteArray) (w : World) (hm : s.size ≤ maxLen) : Calls Tryd.prog 11 #[.string s] w (QPost w (psO s)) := by
  unfold psO
  by_cases hs : s.size ≤ 200
  · rw [if_pos hs]
    exact pa_short s w hs _ rfl
  · rw [if_neg hs]
    exact pa_long s w (by omega) hm
end Go.Proofs.YtegbdagmnibfmaaDoor
