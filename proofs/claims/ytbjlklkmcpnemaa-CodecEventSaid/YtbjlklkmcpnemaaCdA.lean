/-
  The statements' own examples hold. No condition.
-/
import Derived.Test.YtbjlklkmcpnemaaCdJ
set_option linter.unusedSimpArgs false
set_option linter.unusedVariables false
namespace Go.Proofs.Ytbjlklkmcpnemaa
open Go.RowKit

def l5 : List UInt8 := [2, 10, 0, 0, 1]
theorem rev5 : rev l5 = (⟨2, 167772161, ⟨#[]⟩, 0, 0, 0, 0, 0, 0, 0, 0, 0, 0, 0, 0, 0, 0, 0, 0⟩, true) := by kernel_rfl
theorem rw_l5 (w : World) : Rw eB (w.alloc (.cells #[.int .u8 2, .int .u8 10, .int .u8 0, .int .u8 0, .int .u8 1] 5)) (some ⟨w.heap.size, 0, none⟩) l5 := by
  refine rw_bytes (by simp [l5]) fun j v hv => ?_
  match j, hv with
  | 0, hv | 1, hv | 2, hv | 3, hv | 4, hv =>
    have hv' := Option.some.inj hv
    subst hv'
    simp [Addr.add]
theorem zev_ok : zev.Ok := by
  constructor <;> first | (constructor <;> decide) | decide
/-- A row of the call's own as a slice. -/
theorem own_sl {w : World} {B : Nat} {v : Value} {l : List UInt8} (h : w.ownsRow B 5 1 v l.length (bs l)) (hl : 0 < l.length) (hn : l.length ≤ 1000000000) : ∃ A c, v = .slice A l.length c ∧ l.length ≤ c ∧ c ≤ 9223372036854775807 ∧ Rw eB w A l ∧ ∀ p, A = some p → p.block < w.heap.size := by
  obtain ⟨A, c, h1, h2, h3, -, h5, h6⟩ := own_rw (E := eB) h (by omega)
  exact ⟨A, c, h1, h2, by unfold maxLen at h3; omega, h5, fun p hp => (h6 p hp).2⟩
theorem size_st7 : (Try.prog.info? 55).map (·.size) = some 7 := by kernel_rfl
set_option maxRecDepth 100000 in
set_option maxHeartbeats 8000000 in
theorem awake19_any (w : World) : Calls Try.prog 6 #[] w fun e w' => e = .returned (.bool true) ∧ Below w.heap.size w w' := by
  have B0 := Lib.hid (show Below w.heap.size w (w.alloc (.cells #[.int .u8 2, .int .u8 10, .int .u8 0, .int .u8 0, .int .u8 1] 5)) from (Below.refl _ _).alloc (Nat.le_refl _) _)
  have H1 := Lib.hid (show Calls Try.prog 8 #[.slice (some ⟨w.heap.size, 0, none⟩) 5 5] (w.alloc (.cells #[.int .u8 2, .int .u8 10, .int .u8 0, .int .u8 0, .int .u8 1] 5)) fun e w' => e = .returned (.tuple #[.agg #[.int .i64 2, .int .u32 167772161, .string ⟨#[]⟩, .int .u8 0, .int .u8 0, .int .u8 0, .int .u8 0, .int .u8 0, .int .u8 0, .int .u32 0, .int .i64 0, .int .i64 0, .int .u8 0, .int .u8 0, .int .u8 0, .int .u8 0, .int .u8 0, .int .u8 0, .int .i64 0], .bool true]) ∧ Below (w.alloc (.cells #[.int .u8 2, .int .u8 10, .int .u8 0, .int .u8 0, .int .u8 1] 5)).heap.size (w.alloc (.cells #[.int .u8 2, .int .u8 10, .int .u8 0, .int .u8 0, .int .u8 1] 5)) w' from by
    have := readEv_any l5 (some ⟨w.heap.size, 0, none⟩) 5 (w.alloc (.cells #[.int .u8 2, .int .u8 10, .int .u8 0, .int .u8 0, .int .u8 1] 5)) (rw_l5 w) (by simp [l5]) (by omega) (fun p hp => by injection hp with hp; subst hp; simp)
    rw [rev5] at this
    exact this)
  go_enter Try.func6, Try.ntmps6
  go_wp2_with fail
  change Calls _ _ _ (w.alloc (.cells #[.int .u8 2, .int .u8 10, .int .u8 0, .int .u8 0, .int .u8 1] 5)) _
  generalize w.alloc (.cells #[.int .u8 2, .int .u8 10, .int .u8 0, .int .u8 0, .int .u8 1] 5) = w0 at *
  refine H1.out.mono ?_
  rintro e w1 ⟨rfl, hb⟩
  have B1 := Lib.hid (show Below w.heap.size w (w1.alloc (.cells #[.int .i64 0, .int .u32 0, .string ⟨#[]⟩, .int .u8 0, .int .u8 0, .int .u8 0, .int .u8 0, .int .u8 0, .int .u8 0, .int .u32 0, .int .i64 0, .int .i64 0, .int .u8 0, .int .u8 0, .int .u8 0, .int .u8 0, .int .u8 0, .int .u8 0, .int .i64 0] 35)) from (B0.out.trans (hb.mono B0.out.size)).alloc (Nat.le_trans B0.out.size hb.size) _)
  have C1z := Lib.hid (cx_box w1 [.int .i64 0, .int .u32 0, .string ⟨#[]⟩, .int .u8 0, .int .u8 0, .int .u8 0, .int .u8 0, .int .u8 0, .int .u8 0, .int .u32 0, .int .i64 0, .int .i64 0, .int .u8 0, .int .u8 0, .int .u8 0, .int .u8 0, .int .u8 0, .int .u8 0, .int .i64 0] _ 35 rfl)
  have hl1 : w.heap.size ≤ w1.heap.size := Nat.le_trans B0.out.size hb.size
  clear hb B0 H1
  go_upto_region 2 with (refine at_put 35 (.tmp 1) _ w1.heap.size [] [.int .i64 0, .int .u32 0, .string ⟨#[]⟩, .int .u8 0, .int .u8 0, .int .u8 0, .int .u8 0, .int .u8 0, .int .u8 0, .int .u32 0, .int .i64 0, .int .i64 0, .int .u8 0, .int .u8 0, .int .u8 0, .int .u8 0, .int .u8 0, .int .u8 0, .int .i64 0] [.int .i64 2, .int .u32 167772161, .string ⟨#[]⟩, .int .u8 0, .int .u8 0, .int .u8 0, .int .u8 0, .int .u8 0, .int .u8 0, .int .u32 0, .int .i64 0, .int .i64 0, .int .u8 0, .int .u8 0, .int .u8 0, .int .u8 0, .int .u8 0, .int .u8 0, .int .i64 0] [] (by simpa using C1z.out) rfl (by rw [sizeEv]; rfl) (by simp [Value.oneCell']) rfl rfl rfl rfl ?_; intro w2 C2s hb2 hk2)
  have B2 := Lib.hid (B1.out.trans (hb2.out _ hl1))
  have C2 := Lib.hid (show Cx w2 w1.heap.size [.int .i64 2, .int .u32 167772161, .string ⟨#[]⟩, .int .u8 0, .int .u8 0, .int .u8 0, .int .u8 0, .int .u8 0, .int .u8 0, .int .u32 0, .int .i64 0, .int .i64 0, .int .u8 0, .int .u8 0, .int .u8 0, .int .u8 0, .int .u8 0, .int .u8 0, .int .i64 0] from by simpa using C2s.out)
  clear B1 C1z C2s hb2 hk2
  have H2 := Lib.hid (state0_any 7 w2 (by omega) (by omega))
  go_wp2_with fail
  refine H2.out.mono ?_
  rintro e w3 ⟨v3, rfl, ho, hb⟩
  have B3 := Lib.hid (B2.out.trans (hb.mono B2.out.size))
  have C3 := Lib.hid (Cx.below C2.out hb)
  have h20 : (stB0 7).length = 20 := rfl
  obtain ⟨A, c, rfl, hc, hcm, hR, hA⟩ := own_sl ho (by rw [h20]; omega) (by rw [h20]; omega)
  rw [h20] at hc ⊢
  have H3 := Lib.hid (readSt7 A c w3 hR hc hcm hA)
  clear hb ho hR hA B2 C2 H2 hc hcm
  go_wp2_with fail
  refine H3.out.mono ?_
  rintro e w4 ⟨rfl, hb⟩
  have B4 := Lib.hid (show Below w.heap.size w (w4.alloc (.cells #[.int .i64 0, .int .i64 0, .slice none 0 0, .slice none 0 0, .slice none 0 0, .slice none 0 0, .slice none 0 0] 55)) from (B3.out.trans (hb.mono B3.out.size)).alloc (Nat.le_trans B3.out.size hb.size) _)
  have C4 := Lib.hid (Cx.below C3.out (hb.trans (((Below.refl w4.heap.size w4).alloc (Nat.le_refl _) (.cells #[.int .i64 0, .int .i64 0, .slice none 0 0, .slice none 0 0, .slice none 0 0, .slice none 0 0, .slice none 0 0] 55)).mono hb.size)))
  have D4 := Lib.hid (cx_box w4 [.int .i64 0, .int .i64 0, .slice none 0 0, .slice none 0 0, .slice none 0 0, .slice none 0 0, .slice none 0 0] _ 55 rfl)
  have hl4 : w.heap.size ≤ w4.heap.size := Nat.le_trans B3.out.size hb.size
  have hl5 : w1.heap.size < w4.heap.size := Nat.lt_of_lt_of_le C3.out.lt hb.size
  clear hb B3 C3 H3
  go_upto_region 3 with (refine at_put 55 (.tmp 3) _ w4.heap.size [] [.int .i64 0, .int .i64 0, .slice none 0 0, .slice none 0 0, .slice none 0 0, .slice none 0 0, .slice none 0 0] [.int .i64 7, .int .i64 0, .slice none 0 0, .slice none 0 0, .slice none 0 0, .slice none 0 0, .slice none 0 0] [] (by simpa using D4.out) rfl (by rw [size_st7]; rfl) (by simp [Value.oneCell']) rfl rfl rfl rfl ?_; intro w5 D5s hb5 hk5)
  have B5 := Lib.hid (B4.out.trans (hb5.out _ hl4))
  have C5 := Lib.hid (cx_other C4.out hk5.out (by omega))
  have D5 := Lib.hid (show Cx w5 w4.heap.size [.int .i64 7, .int .i64 0, .slice none 0 0, .slice none 0 0, .slice none 0 0, .slice none 0 0, .slice none 0 0] from by simpa using D5s.out)
  have k0 := C5.out.key 0 _ rfl
  have k1 := C5.out.key 1 _ rfl
  have j0 := D5.out.key 0 _ rfl
  have H6 := Lib.hid (show Calls Try.prog 7 #[.agg #[.int .i64 0, .int .u32 0, .string ⟨#[]⟩, .int .u8 0, .int .u8 0, .int .u8 0, .int .u8 0, .int .u8 0, .int .u8 0, .int .u32 0, .int .i64 0, .int .i64 0, .int .u8 0, .int .u8 0, .int .u8 0, .int .u8 0, .int .u8 0, .int .u8 0, .int .i64 0]] w5 (OutL w5.heap.size w5 (evB zev)) from event_any zev w5 zev_ok (by decide))
  clear B4 C4 D4 D5s hb5 hk5
  go_wp2_with fail
  refine H6.out.mono ?_
  rintro e w6 ⟨v6, rfl, ho, hb⟩
  have h1l : (evB zev).length = 1 := rfl
  obtain ⟨A6, c6, rfl, hc, hcm, hR, hA⟩ := own_sl ho (by rw [h1l]; omega) (by rw [h1l]; omega)
  rw [h1l]
  have B6 := Lib.hid (B5.out.trans (hb.mono B5.out.size))
  clear ho hb hR hA hc hcm
  go_wp2_with fail
  go_ret
  exact ⟨rfl, B6.out⟩
end Go.Proofs.Ytbjlklkmcpnemaa
