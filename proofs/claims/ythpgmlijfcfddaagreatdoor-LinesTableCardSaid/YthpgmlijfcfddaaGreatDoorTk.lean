/-
  The contract of lines.tick. Conditions: the library's variables lie as their texts lay them (Env).
-/
import Derived.Test.YthpgmlijfcfddaaGreatDoorSt
set_option linter.unusedSimpArgs false
set_option linter.unusedVariables false
namespace Go.Proofs.YthpgmlijfcfddaaGreatDoor
open Go.RowKit

/-- The library's variables lie as their texts lay them. -/
structure Env (w : World) : Prop where
  tab : Tab w
  et : Et w
  syn : ∃ te pe, w.cell? ⟨1, 0, none⟩ = some (.iface te pe)
  rng : ∃ te pe, w.cell? ⟨2, 0, none⟩ = some (.iface te pe)
theorem Env.keep {w w' : World} (h : Env w) (hb : Below w.heap.size w w') : Env w' := by
  refine ⟨h.tab.below hb, h.et.keep hb, ?_, ?_⟩
  · obtain ⟨te, pe, hc⟩ := h.syn
    exact ⟨te, pe, by rw [hb.cell (p := ⟨1, 0, none⟩) (World.block_lt_of_cell? _ _ hc)]; exact hc⟩
  · obtain ⟨te, pe, hc⟩ := h.rng
    exact ⟨te, pe, by rw [hb.cell (p := ⟨2, 0, none⟩) (World.block_lt_of_cell? _ _ hc)]; exact hc⟩

theorem atoi_bd {l : List UInt8} {v : Int} (h : Lib.atoiAll l = .ok v) : -9223372036854775808 ≤ v ∧ v ≤ 9223372036854775807 := by
  cases l with
  | nil => simp [Lib.atoiAll] at h
  | cons c r =>
    simp only [Lib.atoiAll] at h
    split at h
    · cases h
    · cases h
    · rename_i u hu
      split at h
      · cases h
      · split at h
        · cases h
        · injection h with h
          split at h
          · rename_i hn
            have h2 : ¬ 9223372036854775808 < u := fun hh => by rename_i _ hb; exact hb ⟨hn, hh⟩
            omega
          · rename_i hn
            have h2 : ¬ 9223372036854775808 ≤ u := fun hh => by rename_i ha _; exact ha ⟨hn, hh⟩
            omega

/-- A number of ticks of a text, or what is wrong of it. -/
def tkO (l : List UInt8) : Int × Int :=
  match Lib.atoiAll l with
  | .ok v => if Lib.itoa v = l then (if v < 0 ∨ 1099511627776 < v then (0, 3) else (v, 0)) else (0, 1)
  | _ => (0, 1)
def TPost (w : World) (v n : Int) (e : Ending) (w' : World) : Prop := (∃ ev, e = .returned (.tuple #[.int .i64 v, ev]) ∧ Ew n ev) ∧ Below w.heap.size w w'

theorem str_neq (I : ByteArray) (l : List UInt8) (s : ByteArray) (hI : I = ⟨l.toArray⟩) (T : Bool) (hT : decide (l = s.data.toList) = T) : (!(I.toList == s.toList)) = !T := by
  rw [Lib.toList_data, Lib.toList_data, hI, ← hT]
  simp only
  congr 1
  rw [Bool.eq_iff_iff]
  simp

set_option maxHeartbeats 1000000 in
theorem tick_any (s : ByteArray) (w : World) (hs : s.size ≤ 1000) (hE : Env w) :
    Calls Tryz.prog 24 #[.string s] w (TPost w (tkO s.data.toList).1 (tkO s.data.toList).2) := by
  rcases hA : Lib.atoiAll s.data.toList with v | - | -
  · obtain ⟨hv0, hv1⟩ := atoi_bd hA
    have HA := Lib.hid (Tryz.strconv_Atoi_ok s (by omega) v hA w)
    obtain ⟨I, hI⟩ : ∃ I : ByteArray, I = ⟨(Lib.itoa v).toArray⟩ := ⟨_, rfl⟩
    have HI := Lib.hid fun W (h : Tab W) => Tryz.strconv_Itoa v hv0 hv1 W h
    rw [← hI] at HI
    have HE := Lib.hid hE
    obtain ⟨T, hT⟩ : ∃ T, decide (Lib.itoa v = s.data.toList) = T := ⟨_, rfl⟩
    have e1 := str_neq I _ s hI T hT
    cases T
    · have hR : tkO s.data.toList = (0, 1) := by simp only [tkO, hA]; rw [if_neg (by simpa using hT)]
      rw [hR]
      clear hR hA hE hI hT
      go_enter Tryz.func24, Tryz.ntmps24
      go_wp2_with fail
      refine (HA.out).mono ?_
      rintro e w1 ⟨rfl, hw⟩
      have hb : Below w.heap.size w w1 := by
        rcases hw with rfl | ⟨t, rfl⟩
        · exact Below.refl _ _
        · exact Lib.bytesWorld_below w 5 t
      have HB := Lib.hid hb
      clear hb hw
      go_wp2_with fail
      refine (HI.out _ (HE.out.keep HB.out).tab).mono ?_
      rintro e w2 ⟨rfl, k, os, rfl⟩
      have HB2 := Lib.hid (HB.out.trans ((Ad.below_grow w1 k os).mono HB.out.size))
      go_wp2_with fail
      go_ret2
      exact ⟨⟨_, rfl, .inr ⟨by decide, _, rfl⟩⟩, HB2.out⟩
    · have hR : tkO s.data.toList = if v < 0 ∨ 1099511627776 < v then (0, 3) else (v, 0) := by simp only [tkO, hA]; rw [if_pos (by simpa using hT)]
      rw [hR]
      by_cases h0 : v < 0
      · rw [if_pos (.inl h0)]
        clear hR hA hE hI hT
        go_enter Tryz.func24, Tryz.ntmps24
        go_wp2_with fail
        refine (HA.out).mono ?_
        rintro e w1 ⟨rfl, hw⟩
        have hb : Below w.heap.size w w1 := by
          rcases hw with rfl | ⟨t, rfl⟩
          · exact Below.refl _ _
          · exact Lib.bytesWorld_below w 5 t
        have HB := Lib.hid hb
        clear hb hw
        go_wp2_with fail
        refine (HI.out _ (HE.out.keep HB.out).tab).mono ?_
        rintro e w2 ⟨rfl, k, os, rfl⟩
        have HB2 := Lib.hid (HB.out.trans ((Ad.below_grow w1 k os).mono HB.out.size))
        go_wp2_with fail
        go_ret2
        exact ⟨⟨_, rfl, .inr ⟨by decide, _, rfl⟩⟩, HB2.out⟩
      · by_cases h1 : 1099511627776 < v
        · rw [if_pos (.inr h1)]
          clear hR hA hE hI hT
          go_enter Tryz.func24, Tryz.ntmps24
          go_wp2_with fail
          refine (HA.out).mono ?_
          rintro e w1 ⟨rfl, hw⟩
          have hb : Below w.heap.size w w1 := by
            rcases hw with rfl | ⟨t, rfl⟩
            · exact Below.refl _ _
            · exact Lib.bytesWorld_below w 5 t
          have HB := Lib.hid hb
          clear hb hw
          go_wp2_with fail
          refine (HI.out _ (HE.out.keep HB.out).tab).mono ?_
          rintro e w2 ⟨rfl, k, os, rfl⟩
          have HB2 := Lib.hid (HB.out.trans ((Ad.below_grow w1 k os).mono HB.out.size))
          go_wp2_with fail
          go_ret2
          exact ⟨⟨_, rfl, .inr ⟨by decide, _, rfl⟩⟩, HB2.out⟩
        · rw [if_neg (by omega)]
          clear hR hA hE hI hT
          go_enter Tryz.func24, Tryz.ntmps24
          go_wp2_with fail
          refine (HA.out).mono ?_
          rintro e w1 ⟨rfl, hw⟩
          have hb : Below w.heap.size w w1 := by
            rcases hw with rfl | ⟨t, rfl⟩
            · exact Below.refl _ _
            · exact Lib.bytesWorld_below w 5 t
          have HB := Lib.hid hb
          clear hb hw
          go_wp2_with fail
          refine (HI.out _ (HE.out.keep HB.out).tab).mono ?_
          rintro e w2 ⟨rfl, k, os, rfl⟩
          have HB2 := Lib.hid (HB.out.trans ((Ad.below_grow w1 k os).mono HB.out.size))
          go_wp2_with fail
          go_ret2
          exact ⟨⟨_, rfl, .inl ⟨rfl, rfl⟩⟩, HB2.out⟩
  · have hA' : Lib.atoiAll s.data.toList = Lib.atoiAll [] := hA
    have hR : tkO s.data.toList = (0, 1) := by simp [tkO, hA]
    rw [hR]
    obtain ⟨te, pe, hc⟩ := hE.syn
    have HA := Lib.hid (Tryz.strconv_Atoi_bad s (by omega) hA' _ w hc (.inr ⟨te, pe, rfl⟩))
    clear hR hA hA' hE hc
    go_enter Tryz.func24, Tryz.ntmps24
    go_wp2_with fail
    refine (HA.out).mono ?_
    rintro e w1 ⟨N, rfl, _, _, hb⟩
    have HB := Lib.hid hb
    clear hb
    go_wp2_with fail
    go_ret2
    exact ⟨⟨_, rfl, .inr ⟨by decide, _, rfl⟩⟩, HB.out⟩
  · have hR : tkO s.data.toList = (0, 1) := by simp [tkO, hA]
    rw [hR]
    obtain ⟨te, pe, hc⟩ := hE.rng
    have HA := Lib.hid (Tryz.strconv_Atoi_range s (by omega) hA _ w hc (.inr ⟨te, pe, rfl⟩))
    generalize Lib.atoiSat s.data.toList = q at *
    clear hR hA hE hc
    go_enter Tryz.func24, Tryz.ntmps24
    go_wp2_with fail
    refine (HA.out).mono ?_
    rintro e w1 ⟨N, rfl, _, _, hb⟩
    have HB := Lib.hid hb
    clear hb
    go_wp2_with fail
    go_ret2
    exact ⟨⟨_, rfl, .inr ⟨by decide, _, rfl⟩⟩, HB.out⟩
end Go.Proofs.YthpgmlijfcfddaaGreatDoor
