/-
  The statements' own 'awake' (the document's examples) returns true, and changes nothing that was in memory. Condition: the library's table of powers of ten lies as its text lays it.
-/
import Derived.Test.YtcbknlbpdlheeaaDoorPlain
namespace Go.Proofs.YtcbknlbpdlheeaaDoor
open Go.RowKit

theorem ex_parse : parseO [49, 48, 46, 48, 46, 48, 46, 49] = some 167772161 := by decide
theorem ex_text : textL 167772161 = [49, 48, 46, 48, 46, 48, 46, 49] := (parse_back ex_parse).symm
theorem ex_block : pblO [49, 48, 46, 48, 46, 48, 46, 48, 47, 51, 49] = some (167772160, 31) := by decide

theorem ex_parse_any (w : World) : Calls Tryd.prog 11 #[.string ⟨#[49, 48, 46, 48, 46, 48, 46, 49]⟩] w fun e w' => e = .returned (.tuple #[.int .u32 167772161, .bool true]) ∧ Below w.heap.size w w' := by
  have := parse_any ⟨#[49, 48, 46, 48, 46, 48, 46, 49]⟩ w (by decide)
  rwa [show (⟨#[49, 48, 46, 48, 46, 48, 46, 49]⟩ : ByteArray).data.toList = [49, 48, 46, 48, 46, 48, 46, 49] from rfl, ex_parse] at this
theorem ex_block_any (w : World) : Calls Tryd.prog 19 #[.string ⟨#[49, 48, 46, 48, 46, 48, 46, 48, 47, 51, 49]⟩] w fun e w' => e = .returned (.tuple #[.agg #[.int .u32 167772160, .int .i64 31], .bool true]) ∧ Below w.heap.size w w' := by
  have := parseBlock_any ⟨#[49, 48, 46, 48, 46, 48, 46, 48, 47, 51, 49]⟩ w (by decide)
  rwa [show (⟨#[49, 48, 46, 48, 46, 48, 46, 48, 47, 51, 49]⟩ : ByteArray).data.toList = [49, 48, 46, 48, 46, 48, 46, 48, 47, 51, 49] from rfl, ex_block] at this
theorem ex_halves_any (w : World) : Calls Tryd.prog 26 #[.agg #[.int .u32 167772160, .int .i64 31]] w fun e w' => e = .returned (.tuple #[.agg #[.int .u32 167772160, .int .i64 32], .agg #[.int .u32 167772161, .int .i64 32], .bool true]) ∧ Below w.heap.size w w' := by
  have := halves_yes 167772160 31 w (by decide) (by decide) (by decide)
  rwa [show (167772160 : Int) + p2 (31 + 1) = 167772161 from by decide, show (31 : Int) + 1 = 32 from rfl] at this
theorem ex_text_any (w : World) (ht : Tab w) : Calls Tryd.prog 12 #[.int .u32 167772161] w fun e w' => e = .returned (.string ⟨#[49, 48, 46, 48, 46, 48, 46, 49]⟩) ∧ Below w.heap.size w w' := by
  have := text_any 167772161 w (by decide) (by decide) ht
  rwa [ex_text] at this
theorem ex_size_any (w : World) : Calls Tryd.prog 23 #[.agg #[.int .u32 167772160, .int .i64 31]] w fun e w' => e = .returned (.int .i64 2) ∧ Below w.heap.size w w' :=
  size_eq 167772160 31 2 w (by decide) (by decide) (by decide)

set_option maxHeartbeats 1000000 in
theorem awake_any (w : World) (ht : Tab w) : Calls Tryd.prog 10 #[] w fun e w' => e = .returned (.bool true) ∧ Below w.heap.size w w' := by
  have HT := Lib.hid ht
  clear ht
  go_enter Tryd.func10, Tryd.ntmps10
  go_wp2_with fail
  refine (ex_parse_any _).mono ?_
  rintro e w1 ⟨rfl, hb1⟩
  have HB1 := Lib.hid hb1
  have HT1 := Lib.hid (HT.out.below hb1)
  clear hb1
  go_wp2_with fail
  refine (ex_block_any _).mono ?_
  rintro e w2 ⟨rfl, hb2⟩
  have HB2 := Lib.hid (HB1.out.trans (hb2.mono HB1.out.size))
  have HT2 := Lib.hid (HT1.out.below hb2)
  clear hb2
  go_wp2_with fail
  refine (ex_halves_any _).mono ?_
  rintro e w3 ⟨rfl, hb3⟩
  have HB3 := Lib.hid ((HB2.out.alloc HB2.out.size _).trans (hb3.mono (by have := HB2.out.size; simp; omega)))
  have HT3 := Lib.hid ((HT2.out.below ((Below.refl _ _).alloc (Nat.le_refl _) _)).below hb3)
  have hz3 : w2.heap.size < w3.heap.size := by have := hb3.size; simp at this; omega
  have hz3' : w2.heap.size < w3.heap.size + 1 := by omega
  obtain ⟨hc3, hf3⟩ := bcell hb3
  clear hb3
  go_wp2_with fail
  refine (ex_text_any _ ((HT3.out.below ((Below.refl _ _).alloc (Nat.le_refl _) _)).below ((Below.refl _ _).alloc (Nat.le_refl _) _))).mono ?_
  rintro e w4 ⟨rfl, hb4⟩
  have HB4 := Lib.hid (((HB3.out.alloc HB3.out.size _).alloc (by have := HB3.out.size; simp; omega) _).trans (hb4.mono (by have := HB3.out.size; simp; omega)))
  have hz4 : w3.heap.size + 1 < w4.heap.size := by have := hb4.size; simp at this; omega
  have hz4' : w3.heap.size < w4.heap.size := by omega
  have hz4'' : w2.heap.size < w4.heap.size := by omega
  obtain ⟨hc4, hf4⟩ := bcell hb4
  clear hb4
  go_wp2_with fail
  refine (ex_size_any _).mono ?_
  rintro e w5 ⟨rfl, hb5⟩
  have HB5 := Lib.hid (HB4.out.trans (hb5.mono HB4.out.size))
  clear hb5
  go_wp2_with fail
  go_ret
  exact ⟨rfl, HB5.out⟩
end Go.Proofs.YtcbknlbpdlheeaaDoor
