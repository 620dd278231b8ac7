/-
  The walk of AddrText: called at any address and any text that a process can hold it returns true and changes nothing that was in memory. Conditions: the text is of at most 2 to the power 47 less 4096 bytes; the library's table of powers of ten lies as its text lays it.
-/
import Derived.Test.YtcbknlbpdlheeaaDoorAwake
import Derived.Test.YtcbknlbpdlheeaaDoorBlockText
namespace Go.Proofs.YtcbknlbpdlheeaaDoor
open Go.RowKit
theorem three (w : World) (s0 s1 s2 : ByteArray) : ∀ k < 3, (w.alloc (.cells #[.string s0, .string s1, .string s2] 9)).cell? ⟨w.heap.size, k, none⟩ = some (.string ((#[s0, s1, s2] : Array ByteArray).getD k s0)) := by
  intro k hk
  have : k = 0 ∨ k = 1 ∨ k = 2 := by omega
  rcases this with rfl | rfl | rfl <;> go_simp <;> rfl

set_option maxHeartbeats 1000000 in
set_option maxRecDepth 100000 in
theorem text_walk (a : Int) (s : ByteArray) (w : World) (a0 : 0 ≤ a) (a1 : a < 4294967296) (hs : s.size ≤ 140737488351232) (ht : Tab w) :
    Calls Tryd.prog 3 #[.int .u32 a, .string s] w fun e w' => e = .returned (.bool true) ∧ Below w.heap.size w w' := by
  have H1 := Lib.hid fun W (h : Tab W) => text_any a W a0 a1 h
  have H2 := Lib.hid fun W => textL_any a W a0 a1
  have HPB := Lib.hid (parse_back (l := textL a) (z := a))
  have HP := Lib.hid (parse_text a a0 a1)
  have d1 := textL_len a a1
  have hTL : ∃ l, l = textL a := ⟨_, rfl⟩
  obtain ⟨l, hl⟩ := hTL
  rw [← hl] at H1 H2 HP d1
  have HL := Lib.hid hl
  clear hl HPB
  have HPA := Lib.hid fun W => parse_any ⟨l.toArray⟩ W (by unfold maxLen; rw [Lib.size_eq]; simp; omega)
  rw [show (⟨l.toArray⟩ : ByteArray).data.toList = l by simp, HP.out] at HPA
  have HT := Lib.hid ht
  clear ht
  go_enter Tryd.func3, Tryd.ntmps3
  go_wp2_with fail
  refine (awake_any _ HT.out).mono ?_
  rintro e w1 ⟨rfl, hb1⟩
  have HB1 := Lib.hid hb1
  have HT1 := Lib.hid (HT.out.below hb1)
  clear hb1
  go_wp2_with fail
  refine (H1.out _ HT1.out).mono ?_
  rintro e w2 ⟨rfl, hb2⟩
  have HB2 := Lib.hid (HB1.out.trans (hb2.mono HB1.out.size))
  have HT2 := Lib.hid (HT1.out.below hb2)
  clear hb2
  go_wp2_with fail
  refine (HPA.out _).mono ?_
  rintro e w3 ⟨rfl, hb3⟩
  have HB3 := Lib.hid (HB2.out.trans (hb3.mono HB2.out.size))
  have HT3 := Lib.hid (HT2.out.below hb3)
  clear hb3
  simp only [parseV]
  go_wp2_with fail
  refine (H1.out _ HT3.out).mono ?_
  rintro e w4 ⟨rfl, hb4⟩
  have HB4 := Lib.hid (HB3.out.trans (hb4.mono HB3.out.size))
  clear hb4
  go_wp2_with fail
  refine (H2.out _).mono ?_
  rintro e w5 ⟨rfl, hb5⟩
  have HB5 := Lib.hid (HB4.out.trans (hb5.mono HB4.out.size))
  clear hb5
  go_wp2_with fail
  refine (H2.out _).mono ?_
  rintro e w6 ⟨rfl, hb6⟩
  have HB6 := Lib.hid (HB5.out.trans (hb6.mono HB5.out.size))
  clear hb6
  go_wp2_with fail
  refine (H2.out _).mono ?_
  rintro e w7 ⟨rfl, hb7⟩
  have HB7 := Lib.hid (HB6.out.trans (hb7.mono HB6.out.size))
  clear hb7
  go_wp2_with fail
  have HB8 := Lib.hid (HB7.out.alloc HB7.out.size (.cells #[.string s, .string (⟨l.toArray⟩ ++ s), .string (s ++ ⟨l.toArray⟩)] 9))
  have HC := Lib.hid (three w7 s (⟨l.toArray⟩ ++ s) (s ++ ⟨l.toArray⟩))
  have HS := Lib.hid (show ∀ k < 3, ((#[s, ⟨l.toArray⟩ ++ s, s ++ ⟨l.toArray⟩] : Array ByteArray).getD k s).size ≤ maxLen by
    intro k hk
    have : k = 0 ∨ k = 1 ∨ k = 2 := by omega
    unfold maxLen
    have h15 : (⟨l.toArray⟩ : ByteArray).size ≤ 15 := by rw [Lib.size_eq]; simpa using d1
    rcases this with rfl | rfl | rfl
    · show s.size ≤ _; omega
    · show ((⟨l.toArray⟩ : ByteArray) ++ s).size ≤ _; rw [ByteArray.size_append]; omega
    · show (s ++ (⟨l.toArray⟩ : ByteArray)).size ≤ _; rw [ByteArray.size_append]; omega)
  have hz8 : w7.heap.size < (w7.alloc (.cells #[.string s, .string (⟨l.toArray⟩ ++ s), .string (s ++ ⟨l.toArray⟩)] 9)).heap.size := by simp
  generalize w7.alloc (.cells #[.string s, .string (⟨l.toArray⟩ ++ s), .string (s ++ ⟨l.toArray⟩)] 9) = W8 at *
  go_loopw [46] (fun i W => ∃ k : Nat, k ≤ 3 ∧ i = .int .i64 k ∧ Below W8.heap.size W8 W) (fun i _ => 3 - (intOf i).toNat)
  case atStart => exact ⟨0, by omega, rfl, Below.refl _ _⟩
  case round =>
    obtain ⟨k, hk, rfl, hbw⟩ := hrel
    have HW := Lib.hid hbw
    have hcw := hbw.cell (p := ⟨w7.heap.size, k, none⟩) hz8
    clear hbw
    by_cases hlt : k < 3
    · rw [HC.out k hlt] at hcw
      have hts := HS.out k hlt
      generalize (#[s, ⟨l.toArray⟩ ++ s, s ++ ⟨l.toArray⟩] : Array ByteArray).getD k s = t at *
      have HQ := Lib.hid fun W => parse_any t W hts
      cases hO : parseO t.data.toList with
      | none =>
        rw [hO] at HQ
        clear hO hts
        go_wp2_with fail
        refine (HQ.out _).mono ?_
        rintro e wa ⟨rfl, hba⟩
        have HBA := Lib.hid (HW.out.trans (hba.mono HW.out.size))
        clear hba
        simp only [parseV]
        go_wp2_with fail
        exact ⟨⟨k + 1, by omega, by go_num, HBA.out⟩, by simp [intOf]; omega⟩
      | some z =>
        rw [hO] at HQ
        obtain ⟨z0, z1⟩ := parseO_bd hO
        have HZ := Lib.hid fun W => textL_any z W z0 z1
        have et : t = ⟨(textL z).toArray⟩ := by rw [← parse_back hO]
        generalize textL z = lz at *
        subst et
        clear hO hts
        go_wp2_with fail
        refine (HQ.out _).mono ?_
        rintro e wa ⟨rfl, hba⟩
        have HBA := Lib.hid (HW.out.trans (hba.mono HW.out.size))
        clear hba
        simp only [parseV]
        go_wp2_with fail
        refine (HZ.out _).mono ?_
        rintro e wb ⟨rfl, hbb⟩
        have HBB := Lib.hid (HBA.out.trans (hbb.mono HBA.out.size))
        clear hbb
        go_wp2_with fail
        exact ⟨⟨k + 1, by omega, by go_num, HBB.out⟩, by simp [intOf]; omega⟩
    · clear hcw
      go_wp2_with fail
      go_ret
      exact ⟨rfl, HB8.out.trans (HW.out.mono HB8.out.size)⟩
end Go.Proofs.YtcbknlbpdlheeaaDoor
