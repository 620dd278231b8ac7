/-
  Contract of BlockText (package addr): what it returns, and that nothing that was in memory has changed. Conditions: Bits from 0 to 32; the library's table of powers of ten lies as its text lays it.
-/
import Derived.Test.YtcbknlbpdlheeaaDoorDigits
namespace Go.Proofs.YtcbknlbpdlheeaaDoor
open Go.RowKit
theorem textL_len (a : Int) (h1 : a < 4294967296) : (textL a).length ≤ 15 := by
  have d1 := dig_len (n := a / 16777216) (by omega)
  have d2 := dig_len (n := a / 65536 % 256) (by omega)
  have d3 := dig_len (n := a / 256 % 256) (by omega)
  have d4 := dig_len (n := a % 256) (by omega)
  unfold textL
  simp
  omega

set_option maxHeartbeats 1000000 in
theorem blockText_any (a b : Int) (w : World) (h0 : 0 ≤ a) (h1 : a < 4294967296) (h2 : 0 ≤ b) (h3 : b ≤ 32) (ht : Tab w) :
    Calls Tryd.prog 20 #[.agg #[.int .u32 a, .int .i64 b]] w fun e w' => e = .returned (.string ⟨(textL a ++ 47 :: dig b).toArray⟩) ∧ Below w.heap.size w w' := by
  have k0 := cell_regrown (boxed a b w).1
  have k1 := cell_regrown (boxed a b w).2
  have HT1 := ht.below ((Below.refl _ w).alloc (Nat.le_refl _) (.cells #[.int .u32 a, .int .i64 b] 36))
  have CT := Lib.hid fun (d : Nat) (os : Array Obj) => Calls.regrown_of (text_any a (Sort.grow (redrawn (w.alloc (.cells #[.int .u32 a, .int .i64 b] 36)) d) os) h0 h1 (HT1.below (below_regrown _ d os)))
  have CI := Lib.hid fun (d : Nat) (os : Array Obj) => Calls.regrown_of (itoa_any b (Sort.grow (redrawn (w.alloc (.cells #[.int .u32 a, .int .i64 b] 36)) d) os) h2 (by omega) (HT1.below (below_regrown _ d os)))
  have d1 := textL_len a h1
  have d2 := dig_len (n := b) (by omega)
  generalize textL a = l1 at *
  generalize dig b = l2 at *
  have n1 : ¬ 9223372036854775807 < l1.length + 1 := by omega
  have n2 : ¬ 9223372036854775807 < l1.length + 1 + l2.length := by omega
  clear ht HT1
  go_enter Tryd.func20, Tryd.ntmps20
  go_wp2
  refine wp_region_quiet_below (by kernel_rfl) (by kernel_rfl) ?_
  repeat (go_big_quiet_step (first | (go_at_call 12; exact CT.out _ _) | (go_at_call 33; exact CI.out _ _)))
  refine wpQuiet_nil ?_
  intro _ hw'
  obtain ⟨⟨dq, osq⟩, hw''⟩ := hw'
  subst hw''
  go_wp2
  go_ret
  refine ⟨?_, below_box a b w dq osq⟩
  exact ret_str (by rw [show (⟨#[47]⟩ : ByteArray) = ⟨[47].toArray⟩ from rfl]; simp only [cat]; simp)
end Go.Proofs.YtcbknlbpdlheeaaDoor
