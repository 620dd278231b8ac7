/-
  The walk of LinesWrap: called at any place, number and depth it returns true and changes nothing that was in memory. Conditions: the library's variables lie as their texts lay them (Env).
-/
import Derived.Test.YthpgmlijfcfddaaDoorPc
import Derived.Test.YthpgmlijfcfddaaDoorAw
set_option linter.unusedSimpArgs false
set_option linter.unusedVariables false
namespace Go.Proofs.YthpgmlijfcfddaaDoor
open Go.RowKit

theorem new_any (w : World) : Calls Tryd.prog 8 #[.string ⟨#[120]⟩] w fun e w' => (∃ b, e = .returned (eS b)) ∧ Below w.heap.size w w' := by
  go_enter Tryd.func8, Tryd.ntmps8
  go_wp2_with fail
  go_ret
  exact ⟨⟨_, rfl⟩, (Below.refl _ w).alloc (Nat.le_refl _) _⟩

set_option maxHeartbeats 4000000 in
theorem wrap_walk (x n d : Int) (w : World) (hx0 : -9223372036854775808 ≤ x) (hx1 : x ≤ 9223372036854775807) (hn0 : -128 ≤ n) (hn1 : n ≤ 127) (hd0 : 0 ≤ d) (hd1 : d ≤ 255) (hE : Env w) :
    Calls Tryd.prog 3 #[.int .i64 x, .int .i8 n, .int .u8 d] w fun e w' => e = .returned (.bool true) ∧ Below w.heap.size w w' := by
  have HAW := Lib.hid (awake_any w hE)
  have HE := Lib.hid hE
  clear hE
  obtain ⟨n0, hn0'⟩ : ∃ n0 : Nat, (n0 : Int) = d % 5 := ⟨(d % 5).toNat, by omega⟩
  have HN0 := Lib.hid hn0'
  clear hn0'
  go_enter Tryd.func3, Tryd.ntmps3
  go_wp2_with fail
  refine (HAW.out).mono ?_
  rintro e w1 ⟨rfl, hb1⟩
  have H1 := Lib.hid hb1
  clear hb1
  go_wp2_with fail
  go_loopg [7, 8] n0 (fun m e i wr => ∃ (k b : Nat), k + m = n0 ∧ i = .int .i64 (k : Int) ∧ e = eF b ∧ Hid (wr.cell? ⟨b, 0, none⟩ = some (.int .i64 (wrap64 (x + k))) ∧ Ch wr n (k + 1) (eF b) ∧ Below w.heap.size w wr))
  case atStart =>
    refine ⟨0, w1.heap.size, by omega, rfl, rfl, Lib.hid ⟨?_, .fault _ 0 (eN n) (by simp [eN]) .num, H1.out.alloc H1.out.size _⟩⟩
    simp
    unfold wrap64
    omega
  case round =>
    obtain ⟨k, b, hkm, rfl, rfl, HH⟩ := hrel
    have hk5 : k < 6 := by have := HN0.out; omega
    match gk with
    | 0 =>
      have hk : ¬ (k : Int) < d % 5 := by have := HN0.out; omega
      have e1 : ((wrap64 (x + (k : Int))) == wrap64 (x + d % 5)) = true := by
        rw [show (k : Int) = d % 5 by have := HN0.out; omega]; simp
      have e2 : (n == n) = true := by simp
      clear hk5 hkm
      generalize wrap64 (x + (k : Int)) = pl at *
      have HC := Lib.hid HH.out.1
      have HL := Lib.hid HH.out.2.1
      have HB := Lib.hid HH.out.2.2
      clear HH
      go_wp2_with fail
      refine (place_fault b _ _ HC.out (HE.out.keep HB.out).et).mono ?_
      rintro e w2 ⟨rfl, hb⟩
      have HB2 := Lib.hid (HB.out.trans (hb.mono HB.out.size))
      have HL2 := Lib.hid (HL.out.keep hb)
      clear hb
      go_wp2_with fail
      refine (place_none n _ (HE.out.keep HB2.out).et).mono ?_
      rintro e w3 ⟨rfl, hb⟩
      have HB3 := Lib.hid (HB2.out.trans (hb.mono HB2.out.size))
      have HL3 := Lib.hid (HL2.out.keep hb)
      clear hb
      go_wp2_with fail
      refine (number_any n (k + 1) (eF b) _ HL3.out (HE.out.keep HB3.out).et).mono ?_
      rintro e w4 ⟨rfl, hb⟩
      have HB4 := Lib.hid (HB3.out.trans (hb.mono HB3.out.size))
      clear hb
      go_wp2_with fail
      refine (new_any _).mono ?_
      rintro e w5 ⟨⟨bs, rfl⟩, hb⟩
      have HB5 := Lib.hid (HB4.out.trans (hb.mono HB4.out.size))
      clear hb
      go_wp2_with fail
      refine (number_str bs _ (HE.out.keep HB5.out).et).mono ?_
      rintro e w6 ⟨rfl, hb⟩
      have HB6 := Lib.hid (HB5.out.trans (hb.mono HB5.out.size))
      clear hb
      go_wp2_with fail
      refine (number_nil _).mono ?_
      rintro e w7 ⟨rfl, hb⟩
      have HB7 := Lib.hid (HB6.out.trans (hb.mono HB6.out.size))
      clear hb
      go_wp2_with fail
      go_ret
      exact ⟨rfl, HB7.out⟩
    | m + 1 =>
      have hk : (k : Int) < d % 5 := by have := HN0.out; omega
      have HW := Lib.hid (show wrap64 (wrap64 (x + (k : Int)) + 1) = wrap64 (x + ((k + 1 : Nat) : Int)) by unfold wrap64; omega)
      simp only [eF]
      go_wp2_with fail
      go_roundg m
      case measure => omega
      case rel =>
        refine ⟨k + 1, wr.heap.size, by omega, by go_num, rfl, Lib.hid ⟨?_, .fault _ _ (eF b) (by simp [eF]) (HH.out.2.1.keep ((Below.refl _ wr).alloc (Nat.le_refl _) _)), HH.out.2.2.alloc HH.out.2.2.size _⟩⟩
        rw [← HW.out]
        simp
end Go.Proofs.YthpgmlijfcfddaaDoor
