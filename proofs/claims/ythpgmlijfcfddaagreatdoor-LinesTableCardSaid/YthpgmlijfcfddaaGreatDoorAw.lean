/-
  The document's examples: what the statements' own 'awake' answers. Conditions: the library's variables lie as their texts lay them (Env).
-/
import Derived.Test.YthpgmlijfcfddaaGreatDoorLs
set_option linter.unusedSimpArgs false
set_option linter.unusedVariables false
namespace Go.Proofs.YthpgmlijfcfddaaGreatDoor
open Go.RowKit

def egA : ByteArray := ⟨#[49, 48, 46, 48, 46, 48, 46, 49, 32, 108, 108, 97, 100, 100, 114, 32, 48, 50, 58, 48, 48, 58, 48, 48, 58, 48, 48, 58, 48, 48, 58, 48, 49, 32, 83, 84, 65, 76, 69]⟩
def egB : ByteArray := ⟨#[108, 101, 97, 115, 101, 32, 49, 48, 46, 48, 46, 48, 46, 49, 32, 48, 50, 58, 48, 48, 58, 48, 48, 58, 48, 48, 58, 48, 48, 58, 48, 49, 32, 48, 48, 55]⟩
theorem egA_ok : nbO egA = (⟨167772161, 2, 0, 0, 0, 0, 1, 0⟩, 0) := by decide +kernel
theorem tk7 : tkO [48, 48, 55] = (0, 1) := by
  have h : Lib.atoiAll [48, 48, 55] = .ok 7 := by decide +kernel
  have h2 : Lib.itoa 7 = [55] := by
    rw [show (7 : Int) = ((7 : Nat) : Int) from rfl, Ad.itoa_pos (by decide)]
    show Lib.decDigits 7 = _
    rw [Ad.dd_small (by decide)]
    rfl
  simp only [tkO, h, h2]
  decide
theorem egB_words : wl egB.data.toList = [[108, 101, 97, 115, 101], [49, 48, 46, 48, 46, 48, 46, 49], [48, 50, 58, 48, 48, 58, 48, 48, 58, 48, 48, 58, 48, 48, 58, 48, 49], [48, 48, 55]] := by decide +kernel
theorem egB_ok : lsO egB = (zr, 1) := by
  rw [lsO_four (by decide) egB_words]
  unfold ls4
  rw [if_pos (by decide +kernel)]
  show (if (tkO [48, 48, 55]).2 = 0 then _ else (zr, (tkO [48, 48, 55]).2)) = _
  rw [tk7]
  rfl

set_option maxHeartbeats 2000000 in
theorem awake_any (w : World) (hE : Env w) : Calls Tryz.prog 6 #[] w fun e w' => e = .returned (.bool true) ∧ Below w.heap.size w w' := by
  have hA := fun W => neighbour_any egA W (by decide)
  rw [egA_ok] at hA
  have HA : Hid (∀ W, Calls Tryz.prog 8 #[.string ⟨#[49, 48, 46, 48, 46, 48, 46, 49, 32, 108, 108, 97, 100, 100, 114, 32, 48, 50, 58, 48, 48, 58, 48, 48, 58, 48, 48, 58, 48, 48, 58, 48, 49, 32, 83, 84, 65, 76, 69]⟩] W (SPost W ⟨167772161, 2, 0, 0, 0, 0, 1, 0⟩ 0)) := hA
  have hB := fun W (h : Env W) => lease_any egB W (by decide) h
  rw [egB_ok] at hB
  have HB : Hid (∀ W, Env W → Calls Tryz.prog 11 #[.string ⟨#[108, 101, 97, 115, 101, 32, 49, 48, 46, 48, 46, 48, 46, 49, 32, 48, 50, 58, 48, 48, 58, 48, 48, 58, 48, 48, 58, 48, 48, 58, 48, 49, 32, 48, 48, 55]⟩] W (SPost W zr 1)) := hB
  have HE := Lib.hid hE
  clear hA hB hE
  go_enter Tryz.func6, Tryz.ntmps6
  go_wp2_with fail
  refine (HA.out _).mono ?_
  rintro e w1 ⟨⟨ev, rfl, hew⟩, hb1⟩
  obtain ⟨-, rfl⟩ | ⟨hn, -⟩ := hew
  rotate_left
  · exact absurd rfl hn
  have H1 := Lib.hid hb1
  clear hb1
  simp only [rv]
  go_wp2_with fail
  refine (HB.out _ (HE.out.keep (H1.out.alloc H1.out.size _))).mono ?_
  rintro e w2 ⟨⟨ev, rfl, hew⟩, hb2⟩
  obtain ⟨hn, -⟩ | ⟨-, p, rfl⟩ := hew
  · cases hn
  have H2 := Lib.hid ((H1.out.alloc H1.out.size _).trans (hb2.mono (by simp; have := H1.out.size; omega)))
  obtain ⟨hc2, hf2⟩ := bcell hb2
  have hz2 : w1.heap.size < w2.heap.size := by have := hb2.size; simp at this; omega
  clear hb2
  have HC := Lib.hid fun W => (Ch.wrong (w := W) (n := 1) p)
  simp only [rv, zr, eW]
  go_wp2_with fail
  refine (is_any 1 1 1 (eW p 1) _ (HC.out _)).mono ?_
  rintro e w3 ⟨rfl, hb3⟩
  have H3 := Lib.hid ((H2.out.alloc H2.out.size _).trans (hb3.mono (by simp; have := H2.out.size; omega)))
  clear hb3
  go_wp2_with fail
  refine (number_any 1 1 (eW p 1) _ (HC.out _) (HE.out.keep H3.out).et).mono ?_
  rintro e w4 ⟨rfl, hb4⟩
  have H4 := Lib.hid (H3.out.trans (hb4.mono H3.out.size))
  clear hb4
  go_wp2_with fail
  go_ret
  exact ⟨rfl, H4.out⟩
end Go.Proofs.YthpgmlijfcfddaaGreatDoor
