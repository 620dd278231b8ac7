/-
  The walk of CommandWhere: called at any place, number and depth it returns true and changes nothing that was in memory. Conditions: the library's variables lie as their texts lay them (Env).
-/
import Derived.Test.YtegbdagmnibfmaaDoorAwk
set_option linter.unusedSimpArgs false
set_option linter.unusedVariables false
namespace Go.Proofs.YtegbdagmnibfmaaDoor
open Go.RowKit

/-- The error behind k rounds. -/
def Rd (w : World) (x n : Int) (k : Nat) (e : Value) : Prop := (k = 0 ∧ e = eN n) ∨ ∃ b, 0 < k ∧ e = eF b ∧ w.cell? ⟨b, 0, none⟩ = some (.int .i64 (wrap64 (x + ((k : Int) - 1)))) ∧ Ch w n k (eF b)

set_option maxHeartbeats 4000000 in
theorem where_walk (x n d : Int) (w : World) (hx0 : -9223372036854775808 ≤ x) (hx1 : x ≤ 9223372036854775807) (hn0 : -128 ≤ n) (hn1 : n ≤ 127) (hd0 : 0 ≤ d) (hd1 : d ≤ 255) (hE : Env w) :
    Calls Tryd.prog 5 #[.int .i64 x, .int .i8 n, .int .u8 d] w fun e w' => e = .returned (.bool true) ∧ Below w.heap.size w w' := by
  have HAW := Lib.hid (awake_any w hE)
  have HE := Lib.hid hE
  clear hE
  obtain ⟨n0, hn0'⟩ : ∃ n0 : Nat, (n0 : Int) = d % 4 := ⟨(d % 4).toNat, by omega⟩
  have HN0 := Lib.hid hn0'
  clear hn0'
  go_enter Tryd.func5, Tryd.ntmps5
  go_wp2_with fail
  refine (HAW.out).mono ?_
  rintro e w1 ⟨rfl, hb1⟩
  have H1 := Lib.hid hb1
  clear hb1
  go_wp2_with fail
  go_loopg [7, 8] n0 (fun m e i wr => ∃ k : Nat, k + m = n0 ∧ i = .int .i64 (k : Int) ∧ (∃ T X, e = .iface T X) ∧ Hid (Rd wr x n k e ∧ Below w.heap.size w wr))
  case atStart =>
    exact ⟨0, by omega, rfl, ⟨_, _, rfl⟩, Lib.hid ⟨.inl ⟨rfl, rfl⟩, H1.out⟩⟩
  case round =>
    obtain ⟨k, hkm, rfl, ⟨T, X, rfl⟩, HH⟩ := hrel
    have hk5 : k < 5 := by have := HN0.out; omega
    match gk with
    | 0 =>
      have hk : ¬ (k : Int) < d % 4 := by have := HN0.out; omega
      have HK := Lib.hid (show (k : Int) = d % 4 by have := HN0.out; omega)
      have e2 : (n == n) = true := by simp
      have HB := Lib.hid HH.out.2
      rcases HH.out.1 with ⟨h0, he⟩ | ⟨b, h0, he, h4, h5⟩
      · have d0 : d % 4 = 0 := by have := HK.out; omega
        have HEN := Lib.hid he
        clear he hk5 hkm HH
        go_wp2_with fail
        rw [HEN.out]
        refine (where_none n 0 (eN n) _ .num (HE.out.keep HB.out).et).mono ?_
        rintro e w2 ⟨rfl, hb⟩
        have HB2 := Lib.hid (HB.out.trans (hb.mono HB.out.size))
        clear hb
        have d0' : ¬ 0 < d % 4 := by omega
        go_wp2_with fail
        refine (where_nil _).mono ?_
        rintro e w3 ⟨rfl, hb⟩
        have HB3 := Lib.hid (HB2.out.trans (hb.mono HB2.out.size))
        clear hb
        go_wp2_with fail
        go_ret
        exact ⟨rfl, HB3.out⟩
      · have d0 : 0 < d % 4 := by have := HK.out; omega
        have HEN := Lib.hid he
        have HF := Lib.hid (And.intro h4 h5)
        have e1 : (wrap64 (x + ((k : Int) - 1)) == wrap64 (wrap64 (x + d % 4) - 1)) = true := by
          rw [HK.out]
          have : wrap64 (x + (d % 4 - 1)) = wrap64 (wrap64 (x + d % 4) - 1) := by unfold wrap64; omega
          rw [this]; simp
        clear he hk5 hkm HH h4 h5
        generalize wrap64 (x + ((k : Int) - 1)) = pl at *
        go_wp2_with fail
        rw [HEN.out]
        refine (where_fault n pl k b _ HF.out.2 HF.out.1 (HE.out.keep HB.out).et).mono ?_
        rintro e w2 ⟨rfl, hb⟩
        have HB2 := Lib.hid (HB.out.trans (hb.mono HB.out.size))
        clear hb
        go_wp2_with fail
        refine (where_nil _).mono ?_
        rintro e w3 ⟨rfl, hb⟩
        have HB3 := Lib.hid (HB2.out.trans (hb.mono HB2.out.size))
        clear hb
        go_wp2_with fail
        go_ret
        exact ⟨rfl, HB3.out⟩
    | m + 1 =>
      have hk : (k : Int) < d % 4 := by have := HN0.out; omega
      go_wp2_with fail
      go_roundg m
      case measure => omega
      case rel =>
        refine ⟨k + 1, by omega, by go_num, ⟨_, _, rfl⟩, Lib.hid ⟨.inr ⟨wr.heap.size, by omega, rfl, ?_, ?_⟩, HH.out.2.alloc HH.out.2.size _⟩⟩
        · simp
        · refine .fault _ k (.iface T X) (by simp) ?_
          rcases HH.out.1 with ⟨h0, he⟩ | ⟨b, h0, he, h4, h5⟩
          · rw [he, h0]; exact .num
          · rw [he]; exact h5.keep ((Below.refl _ wr).alloc (Nat.le_refl _) _)
end Go.Proofs.YtegbdagmnibfmaaDoor
