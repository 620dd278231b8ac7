/-
  The contracts of a reader's owner, block, sighted and holder. Conditions: the reader and its bytes lie in memory, the bytes below it.
-/
import Derived.Test.YtbjlklkmcpnemaaCdU
set_option linter.unusedSimpArgs false
set_option linter.unusedVariables false
namespace Go.Proofs.Ytbjlklkmcpnemaa
open Go.RowKit

theorem run_strB (A : Option Addr) (c : Nat) (P : List UInt8) (W : World) (R : Rw eB W A P) : (convert 37 9 (.slice A P.length c)).run Try.prog W = .ok (.string ⟨P.toArray⟩) W := by
  cases A with
  | none =>
    obtain rfl := rw_none R
    show (convert 37 9 (.slice none 0 c)).run Try.prog W = _
    rw [run_convert_bytes_string W 37 9 5 none 0 c Try.underlying37 Try.underlying5 Try.underlying9]
    rfl
  | some y =>
    exact run_convert_bytes_back W 37 9 5 y c P Try.underlying37 Try.underlying5 Try.underlying9 fun j hj => rw_b0 R (List.getElem?_eq_getElem hj)
/-- The next owner, and what is left. -/
def owL (x : Rs) : List UInt8 := tkP (vl (tkP 1 x)).toNat (tkS 1 x)
def owP (x : Rs) : ByteArray := ⟨(owL x).toArray⟩
def owS (x : Rs) : Rs := tkS (vl (tkP 1 x)).toNat (tkS 1 x)
set_option maxRecDepth 100000 in
set_option maxHeartbeats 4000000 in
theorem rowner_any (x : Rs) (b : Nat) (w : World) (H : Rd w b x) :
    Calls Try.prog 77 #[.pointer (some ⟨b, 0, none⟩)] w fun e w' => e = .returned (.string (owP x)) ∧ Rd w' b (owS x) ∧ Ob b w w' := by
  have H1 := Lib.hid (rnumber_any x 1 b w H (by omega))
  have h1 := un1 x
  have HP := Lib.hid (show owP x = ⟨(owL x).toArray⟩ from rfl)
  obtain ⟨r, hr⟩ : ∃ r : Nat, vl (tkP 1 x) = (r : Int) := ⟨(vl (tkP 1 x)).toNat, by omega⟩
  have HS := Lib.hid (show owL x = tkP r (tkS 1 x) ∧ owS x = tkS r (tkS 1 x) from by unfold owL owS; rw [hr]; exact ⟨rfl, rfl⟩)
  rw [hr] at H1 h1
  have hr2 : r < 256 := by omega
  clear H hr h1
  go_enter Try.func77, Try.ntmps77
  go_wp2_with fail
  refine H1.out.mono ?_
  rintro e w1 ⟨rfl, hR, hO⟩
  have H2 := Lib.hid (take_any (tkS 1 x) r b w1 hR (by omega))
  have O1 := Lib.hid hO
  clear hR hO H1
  go_wp2_with fail
  refine H2.out.mono ?_
  rintro e w2 ⟨A, c, rfl, hR, hlc, hc, hA, hRd, hob⟩
  have hs := run_strB A c (tkP r (tkS 1 x)) w2 hR
  have E2 := Lib.hid (And.intro hRd (O1.out.trans hob))
  clear hR hRd hob hA H2
  go_wp2_with fail
  go_ret
  rw [HP.out, HS.out.1, HS.out.2]
  exact ⟨rfl, E2.out⟩
theorem size_rblock : (Try.prog.info? 30).map (·.size) = some 2 := by kernel_rfl
set_option maxRecDepth 100000 in
set_option maxHeartbeats 4000000 in
theorem rblock_any (x : Rs) (b : Nat) (w : World) (H : Rd w b x) :
    Calls Try.prog 52 #[.pointer (some ⟨b, 0, none⟩)] w fun e w' => e = .returned (.agg #[.int .u32 (adP x), .int .i64 (vl (tkP 1 (tkS 4 x)))]) ∧ Rd w' b (tkS 1 (tkS 4 x)) ∧ Ob b w w' := by
  have hlt := H.lt
  have B0 := (show Below w.heap.size w (w.alloc (.cells #[.int .u32 0, .int .i64 0] 30)) from (Below.refl _ _).alloc (Nat.le_refl _) _)
  have CA0 := Lib.hid (cx_box w [.int .u32 0, .int .i64 0] _ 30 rfl)
  have hR0 := H.below B0
  have O0 := Lib.hid (Ob.of B0 hlt)
  clear B0 H
  obtain ⟨V0, hV0⟩ : ∃ v, (adP x) = v := ⟨_, rfl⟩
  obtain ⟨V1, hV1⟩ : ∃ v, (vl (tkP 1 (tkS 4 x))) = v := ⟨_, rfl⟩
  rw [hV0, hV1]
  go_enter Try.func52, Try.ntmps52
  go_upto_region 1 with fail
  generalize w.alloc (.cells #[.int .u32 0, .int .i64 0] 30) = w0 at *
  have H1 := Lib.hid (raddr_any x b w0 hR0)
  (try simp only [hV0, hV1] at H1)
  clear hR0
  go_wp2_with fail
  refine H1.out.mono ?_
  rintro e w1 ⟨rfl, hR1, hO1⟩
  have O1 := Lib.hid (O0.out.trans hO1)
  have CA1 := Lib.hid (cx_ob CA0.out hO1 (by omega))
  clear hO1 H1 O0 CA0
  have H2 := Lib.hid (rnumber_any (tkS 4 x) 1 b w1 hR1 (by omega))
  (try simp only [hV0, hV1] at H2)
  clear hR1
  go_wp2_with fail
  refine H2.out.mono ?_
  rintro e w2 ⟨rfl, hR2, hO2⟩
  have O2 := Lib.hid (O1.out.trans hO2)
  have CA2 := Lib.hid (cx_ob CA1.out hO2 (by omega))
  clear hO2 H2 O1 CA1
  clear hV0 hV1
  have R2 := Lib.hid hR2
  clear hR2
  go_wp2_with (refine at_put 30 (.tmp 2) _ w.heap.size [] [.int .u32 0, .int .i64 0] [.int .u32 V0, .int .i64 V1] [] (by simpa using CA2.out) rfl (by rw [size_rblock]; rfl) (by simp [Value.oneCell']) rfl rfl rfl rfl ?_; intro w9 C9 hb9 hk9)
  have e9 : Cx w9 w.heap.size [.int .u32 V0, .int .i64 V1] := by simpa using C9.out
  refine bodyPost_ret (results_cell rfl _ _ _ _ rfl (loadv 30 _ e9 Try.underlying30 rfl (by rw [size_rblock]; rfl))) rfl ?_
  exact ⟨rfl, rd_other R2.out hk9.out (by omega), ⟨O2.out.bel.trans (hb9.out _ (by omega)), fun k hkb hkl => by rw [hk9.out k (by omega), O2.out.oth k hkb hkl]⟩⟩
theorem size_rsighted : (Try.prog.info? 33).map (·.size) = some 8 := by kernel_rfl
set_option maxRecDepth 100000 in
set_option maxHeartbeats 4000000 in
theorem rsighted_any (x : Rs) (b : Nat) (w : World) (H : Rd w b x) :
    Calls Try.prog 53 #[.pointer (some ⟨b, 0, none⟩)] w fun e w' => e = .returned (.agg #[.int .i64 (vl (tkP 1 x)), .int .u8 (mq (tkS 1 x) 0), .int .u8 (mq (tkS 1 x) 1), .int .u8 (mq (tkS 1 x) 2), .int .u8 (mq (tkS 1 x) 3), .int .u8 (mq (tkS 1 x) 4), .int .u8 (mq (tkS 1 x) 5), .int .i64 0]) ∧ Rd w' b (tkS 6 (tkS 1 x)) ∧ Ob b w w' := by
  have hlt := H.lt
  have B0 := (show Below w.heap.size w (w.alloc (.cells #[.int .i64 0, .int .u8 0, .int .u8 0, .int .u8 0, .int .u8 0, .int .u8 0, .int .u8 0, .int .i64 0] 33)) from (Below.refl _ _).alloc (Nat.le_refl _) _)
  have CA0 := Lib.hid (cx_box w [.int .i64 0, .int .u8 0, .int .u8 0, .int .u8 0, .int .u8 0, .int .u8 0, .int .u8 0, .int .i64 0] _ 33 rfl)
  have hR0 := H.below B0
  have O0 := Lib.hid (Ob.of B0 hlt)
  clear B0 H
  obtain ⟨V0, hV0⟩ : ∃ v, (vl (tkP 1 x)) = v := ⟨_, rfl⟩
  obtain ⟨V1, hV1⟩ : ∃ v, (mq (tkS 1 x) 0) = v := ⟨_, rfl⟩
  obtain ⟨V2, hV2⟩ : ∃ v, (mq (tkS 1 x) 1) = v := ⟨_, rfl⟩
  obtain ⟨V3, hV3⟩ : ∃ v, (mq (tkS 1 x) 2) = v := ⟨_, rfl⟩
  obtain ⟨V4, hV4⟩ : ∃ v, (mq (tkS 1 x) 3) = v := ⟨_, rfl⟩
  obtain ⟨V5, hV5⟩ : ∃ v, (mq (tkS 1 x) 4) = v := ⟨_, rfl⟩
  obtain ⟨V6, hV6⟩ : ∃ v, (mq (tkS 1 x) 5) = v := ⟨_, rfl⟩
  rw [hV0, hV1, hV2, hV3, hV4, hV5, hV6]
  go_enter Try.func53, Try.ntmps53
  go_upto_region 1 with fail
  generalize w.alloc (.cells #[.int .i64 0, .int .u8 0, .int .u8 0, .int .u8 0, .int .u8 0, .int .u8 0, .int .u8 0, .int .i64 0] 33) = w0 at *
  have H1 := Lib.hid (rnumber_any x 1 b w0 hR0 (by omega))
  (try simp only [hV0, hV1, hV2, hV3, hV4, hV5, hV6] at H1)
  clear hR0
  go_wp2_with fail
  refine H1.out.mono ?_
  rintro e w1 ⟨rfl, hR1, hO1⟩
  have O1 := Lib.hid (O0.out.trans hO1)
  have CA1 := Lib.hid (cx_ob CA0.out hO1 (by omega))
  clear hO1 H1 O0 CA0
  have H2 := Lib.hid (rmac_any (tkS 1 x) b w1 hR1)
  (try simp only [hV0, hV1, hV2, hV3, hV4, hV5, hV6] at H2)
  clear hR1
  go_wp2_with fail
  refine H2.out.mono ?_
  rintro e w2 ⟨rfl, hR2, hO2⟩
  have O2 := Lib.hid (O1.out.trans hO2)
  have CA2 := Lib.hid (cx_ob CA1.out hO2 (by omega))
  clear hO2 H2 O1 CA1
  clear hV0 hV1 hV2 hV3 hV4 hV5 hV6
  have R2 := Lib.hid hR2
  clear hR2
  go_wp2_with (refine at_put 33 (.tmp 2) _ w.heap.size [] [.int .i64 0, .int .u8 0, .int .u8 0, .int .u8 0, .int .u8 0, .int .u8 0, .int .u8 0, .int .i64 0] [.int .i64 V0, .int .u8 V1, .int .u8 V2, .int .u8 V3, .int .u8 V4, .int .u8 V5, .int .u8 V6, .int .i64 0] [] (by simpa using CA2.out) rfl (by rw [size_rsighted]; rfl) (by simp [Value.oneCell']) rfl rfl rfl rfl ?_; intro w9 C9 hb9 hk9)
  have e9 : Cx w9 w.heap.size [.int .i64 V0, .int .u8 V1, .int .u8 V2, .int .u8 V3, .int .u8 V4, .int .u8 V5, .int .u8 V6, .int .i64 0] := by simpa using C9.out
  refine bodyPost_ret (results_cell rfl _ _ _ _ rfl (loadv 33 _ e9 Try.underlying33 rfl (by rw [size_rsighted]; rfl))) rfl ?_
  exact ⟨rfl, rd_other R2.out hk9.out (by omega), ⟨O2.out.bel.trans (hb9.out _ (by omega)), fun k hkb hkl => by rw [hk9.out k (by omega), O2.out.oth k hkb hkl]⟩⟩
theorem size_rholder : (Try.prog.info? 28).map (·.size) = some 8 := by kernel_rfl
set_option maxRecDepth 100000 in
set_option maxHeartbeats 4000000 in
theorem rholder_any (x : Rs) (b : Nat) (w : World) (H : Rd w b x) :
    Calls Try.prog 50 #[.pointer (some ⟨b, 0, none⟩)] w fun e w' => e = .returned (.agg #[.int .u32 (adP x), .string (owP (tkS 4 x)), .int .u8 (mq (owS (tkS 4 x)) 0), .int .u8 (mq (owS (tkS 4 x)) 1), .int .u8 (mq (owS (tkS 4 x)) 2), .int .u8 (mq (owS (tkS 4 x)) 3), .int .u8 (mq (owS (tkS 4 x)) 4), .int .u8 (mq (owS (tkS 4 x)) 5)]) ∧ Rd w' b (tkS 6 (owS (tkS 4 x))) ∧ Ob b w w' := by
  have hlt := H.lt
  have B0 := (show Below w.heap.size w (w.alloc (.cells #[.int .u32 0, .string ⟨#[]⟩, .int .u8 0, .int .u8 0, .int .u8 0, .int .u8 0, .int .u8 0, .int .u8 0] 28)) from (Below.refl _ _).alloc (Nat.le_refl _) _)
  have CA0 := Lib.hid (cx_box w [.int .u32 0, .string ⟨#[]⟩, .int .u8 0, .int .u8 0, .int .u8 0, .int .u8 0, .int .u8 0, .int .u8 0] _ 28 rfl)
  have hR0 := H.below B0
  have O0 := Lib.hid (Ob.of B0 hlt)
  clear B0 H
  obtain ⟨V0, hV0⟩ : ∃ v, (adP x) = v := ⟨_, rfl⟩
  obtain ⟨V1, hV1⟩ : ∃ v, (owP (tkS 4 x)) = v := ⟨_, rfl⟩
  obtain ⟨V2, hV2⟩ : ∃ v, (mq (owS (tkS 4 x)) 0) = v := ⟨_, rfl⟩
  obtain ⟨V3, hV3⟩ : ∃ v, (mq (owS (tkS 4 x)) 1) = v := ⟨_, rfl⟩
  obtain ⟨V4, hV4⟩ : ∃ v, (mq (owS (tkS 4 x)) 2) = v := ⟨_, rfl⟩
  obtain ⟨V5, hV5⟩ : ∃ v, (mq (owS (tkS 4 x)) 3) = v := ⟨_, rfl⟩
  obtain ⟨V6, hV6⟩ : ∃ v, (mq (owS (tkS 4 x)) 4) = v := ⟨_, rfl⟩
  obtain ⟨V7, hV7⟩ : ∃ v, (mq (owS (tkS 4 x)) 5) = v := ⟨_, rfl⟩
  rw [hV0, hV1, hV2, hV3, hV4, hV5, hV6, hV7]
  go_enter Try.func50, Try.ntmps50
  go_upto_region 1 with fail
  generalize w.alloc (.cells #[.int .u32 0, .string ⟨#[]⟩, .int .u8 0, .int .u8 0, .int .u8 0, .int .u8 0, .int .u8 0, .int .u8 0] 28) = w0 at *
  have H1 := Lib.hid (raddr_any x b w0 hR0)
  (try simp only [hV0, hV1, hV2, hV3, hV4, hV5, hV6, hV7] at H1)
  clear hR0
  go_wp2_with fail
  refine H1.out.mono ?_
  rintro e w1 ⟨rfl, hR1, hO1⟩
  have O1 := Lib.hid (O0.out.trans hO1)
  have CA1 := Lib.hid (cx_ob CA0.out hO1 (by omega))
  clear hO1 H1 O0 CA0
  have H2 := Lib.hid (rowner_any (tkS 4 x) b w1 hR1)
  (try simp only [hV0, hV1, hV2, hV3, hV4, hV5, hV6, hV7] at H2)
  clear hR1
  go_wp2_with fail
  refine H2.out.mono ?_
  rintro e w2 ⟨rfl, hR2, hO2⟩
  have O2 := Lib.hid (O1.out.trans hO2)
  have CA2 := Lib.hid (cx_ob CA1.out hO2 (by omega))
  clear hO2 H2 O1 CA1
  have H3 := Lib.hid (rmac_any (owS (tkS 4 x)) b w2 hR2)
  (try simp only [hV0, hV1, hV2, hV3, hV4, hV5, hV6, hV7] at H3)
  clear hR2
  go_wp2_with fail
  refine H3.out.mono ?_
  rintro e w3 ⟨rfl, hR3, hO3⟩
  have O3 := Lib.hid (O2.out.trans hO3)
  have CA3 := Lib.hid (cx_ob CA2.out hO3 (by omega))
  clear hO3 H3 O2 CA2
  clear hV0 hV1 hV2 hV3 hV4 hV5 hV6 hV7
  have R3 := Lib.hid hR3
  clear hR3
  go_wp2_with (refine at_put 28 (.tmp 2) _ w.heap.size [] [.int .u32 0, .string ⟨#[]⟩, .int .u8 0, .int .u8 0, .int .u8 0, .int .u8 0, .int .u8 0, .int .u8 0] [.int .u32 V0, .string V1, .int .u8 V2, .int .u8 V3, .int .u8 V4, .int .u8 V5, .int .u8 V6, .int .u8 V7] [] (by simpa using CA3.out) rfl (by rw [size_rholder]; rfl) (by simp [Value.oneCell']) rfl rfl rfl rfl ?_; intro w9 C9 hb9 hk9)
  have e9 : Cx w9 w.heap.size [.int .u32 V0, .string V1, .int .u8 V2, .int .u8 V3, .int .u8 V4, .int .u8 V5, .int .u8 V6, .int .u8 V7] := by simpa using C9.out
  refine bodyPost_ret (results_cell rfl _ _ _ _ rfl (loadv 28 _ e9 Try.underlying28 rfl (by rw [size_rholder]; rfl))) rfl ?_
  exact ⟨rfl, rd_other R3.out hk9.out (by omega), ⟨O3.out.bel.trans (hb9.out _ (by omega)), fun k hkb hkl => by rw [hk9.out k (by omega), O3.out.oth k hkb hkl]⟩⟩
end Go.Proofs.Ytbjlklkmcpnemaa
