/-
  The contract of a reader's event. Conditions: the reader and its bytes lie in memory, the bytes below it.
-/
import Derived.Test.YtbjlklkmcpnemaaCdV
set_option linter.unusedSimpArgs false
set_option linter.unusedVariables false
namespace Go.Proofs.Ytbjlklkmcpnemaa
open Go.RowKit

/-- The event that comes next, and what is left. -/
def rdE (x : Rs) : Ev × Rs :=
  if vl (tkP 1 x) = 1 then (⟨1, adP (tkS 1 x), owP (tkS 4 (tkS 1 x)), mq (owS (tkS 4 (tkS 1 x))) 0, mq (owS (tkS 4 (tkS 1 x))) 1, mq (owS (tkS 4 (tkS 1 x))) 2, mq (owS (tkS 4 (tkS 1 x))) 3, mq (owS (tkS 4 (tkS 1 x))) 4, mq (owS (tkS 4 (tkS 1 x))) 5, 0, 0, 0, 0, 0, 0, 0, 0, 0, 0⟩, tkS 6 (owS (tkS 4 (tkS 1 x))))
  else if vl (tkP 1 x) = 2 ∨ vl (tkP 1 x) = 6 ∨ vl (tkP 1 x) = 7 then (⟨vl (tkP 1 x), adP (tkS 1 x), ⟨#[]⟩, 0, 0, 0, 0, 0, 0, 0, 0, 0, 0, 0, 0, 0, 0, 0, 0⟩, (tkS 4 (tkS 1 x)))
  else if vl (tkP 1 x) = 3 ∨ vl (tkP 1 x) = 4 then (⟨vl (tkP 1 x), 0, ⟨#[]⟩, 0, 0, 0, 0, 0, 0, adP (tkS 1 x), vl (tkP 1 (tkS 4 (tkS 1 x))), 0, 0, 0, 0, 0, 0, 0, 0⟩, tkS 1 (tkS 4 (tkS 1 x)))
  else if vl (tkP 1 x) = 5 then (⟨5, adP (tkS 1 x), ⟨#[]⟩, 0, 0, 0, 0, 0, 0, 0, 0, vl (tkP 1 (tkS 4 (tkS 1 x))), mq (tkS 1 (tkS 4 (tkS 1 x))) 0, mq (tkS 1 (tkS 4 (tkS 1 x))) 1, mq (tkS 1 (tkS 4 (tkS 1 x))) 2, mq (tkS 1 (tkS 4 (tkS 1 x))) 3, mq (tkS 1 (tkS 4 (tkS 1 x))) 4, mq (tkS 1 (tkS 4 (tkS 1 x))) 5, 0⟩, tkS 6 (tkS 1 (tkS 4 (tkS 1 x))))
  else (⟨vl (tkP 1 x), 0, ⟨#[]⟩, 0, 0, 0, 0, 0, 0, 0, 0, 0, 0, 0, 0, 0, 0, 0, 0⟩, (tkS 1 x))
theorem sizeEv : (Try.prog.info? 35).map (·.size) = some 19 := by kernel_rfl
theorem sizeAd : (Try.prog.info? 24).map (·.size) = some 1 := by kernel_rfl
set_option maxRecDepth 100000 in
set_option maxHeartbeats 8000000 in
theorem revent_any (x : Rs) (b : Nat) (w : World) (H : Rd w b x) :
    Calls Try.prog 23 #[.pointer (some ⟨b, 0, none⟩)] w fun e w' => e = .returned (evv (rdE x).1) ∧ Rd w' b (rdE x).2 ∧ Ob b w w' := by
  have hlt := H.lt
  have B0 := (show Below w.heap.size w (w.alloc (.cells #[.int .i64 0, .int .u32 0, .string ⟨#[]⟩, .int .u8 0, .int .u8 0, .int .u8 0, .int .u8 0, .int .u8 0, .int .u8 0, .int .u32 0, .int .i64 0, .int .i64 0, .int .u8 0, .int .u8 0, .int .u8 0, .int .u8 0, .int .u8 0, .int .u8 0, .int .i64 0] 35)) from (Below.refl _ _).alloc (Nat.le_refl _) _)
  have CA0 := Lib.hid (cx_box w [.int .i64 0, .int .u32 0, .string ⟨#[]⟩, .int .u8 0, .int .u8 0, .int .u8 0, .int .u8 0, .int .u8 0, .int .u8 0, .int .u32 0, .int .i64 0, .int .i64 0, .int .u8 0, .int .u8 0, .int .u8 0, .int .u8 0, .int .u8 0, .int .u8 0, .int .i64 0] _ 35 rfl)
  have hR0 := H.below B0
  have O0 := Lib.hid (Ob.of B0 hlt)
  have HQ := Lib.hid (show rdE x = _ from by unfold rdE; rfl)
  clear B0 H
  obtain ⟨K, hK⟩ : ∃ v, vl (tkP 1 x) = v := ⟨_, rfl⟩
  go_enter Try.func23, Try.ntmps23
  go_upto_region 1 with fail
  generalize w.alloc (.cells #[.int .i64 0, .int .u32 0, .string ⟨#[]⟩, .int .u8 0, .int .u8 0, .int .u8 0, .int .u8 0, .int .u8 0, .int .u8 0, .int .u32 0, .int .i64 0, .int .i64 0, .int .u8 0, .int .u8 0, .int .u8 0, .int .u8 0, .int .u8 0, .int .u8 0, .int .i64 0] 35) = w0 at *
  have hg0 : w.heap.size < w0.heap.size := CA0.out.lt
  have H1 := Lib.hid (rnumber_any x 1 b w0 hR0 (by omega))
  simp only [hK] at H1 HQ
  clear hR0 hK
  go_wp2_with fail
  refine H1.out.mono ?_
  rintro e w1 ⟨rfl, hR1, hO1⟩
  have hg1 : w0.heap.size ≤ w1.heap.size := hO1.size
  have B1 := (show Below w1.heap.size w1 (w1.alloc (.cells #[.int .i64 0, .int .u32 0, .string ⟨#[]⟩, .int .u8 0, .int .u8 0, .int .u8 0, .int .u8 0, .int .u8 0, .int .u8 0, .int .u32 0, .int .i64 0, .int .i64 0, .int .u8 0, .int .u8 0, .int .u8 0, .int .u8 0, .int .u8 0, .int .u8 0, .int .i64 0] 35)) from (Below.refl _ _).alloc (Nat.le_refl _) _)
  have hO1b := hO1.trans (Ob.of B1 hR1.lt)
  have O1z := Lib.hid (O0.out.trans hO1b)
  have CA1z := Lib.hid (cx_ob CA0.out hO1b (by omega))
  have CE1z := Lib.hid (cx_box w1 [.int .i64 0, .int .u32 0, .string ⟨#[]⟩, .int .u8 0, .int .u8 0, .int .u8 0, .int .u8 0, .int .u8 0, .int .u8 0, .int .u32 0, .int .i64 0, .int .i64 0, .int .u8 0, .int .u8 0, .int .u8 0, .int .u8 0, .int .u8 0, .int .u8 0, .int .i64 0] _ 35 rfl)
  have R1z := Lib.hid (hR1.below B1)
  have hbl := hR1.lt
  clear hO1 hO1b H1 O0 CA0 B1 hR1
  go_upto_region 2 with (refine at_put 35 (.tmp 3) _ w1.heap.size [] [.int .i64 0, .int .u32 0, .string ⟨#[]⟩, .int .u8 0, .int .u8 0, .int .u8 0, .int .u8 0, .int .u8 0, .int .u8 0, .int .u32 0, .int .i64 0, .int .i64 0, .int .u8 0, .int .u8 0, .int .u8 0, .int .u8 0, .int .u8 0, .int .u8 0, .int .i64 0] [.int .i64 K, .int .u32 0, .string ⟨#[]⟩, .int .u8 0, .int .u8 0, .int .u8 0, .int .u8 0, .int .u8 0, .int .u8 0, .int .u32 0, .int .i64 0, .int .i64 0, .int .u8 0, .int .u8 0, .int .u8 0, .int .u8 0, .int .u8 0, .int .u8 0, .int .i64 0] [] (by simpa using CE1z.out) rfl (by rw [sizeEv]; rfl) (by simp [Value.oneCell']) rfl rfl rfl rfl ?_; intro w2 CE1s hb2 hk2)
  have O1 := Lib.hid (show Ob b w w2 from ⟨O1z.out.bel.trans (hb2.out _ (by omega)), fun k hkb hkl => by rw [hk2.out k (by omega), O1z.out.oth k hkb hkl]⟩)
  have CA1 := Lib.hid (cx_other CA1z.out hk2.out (by omega))
  have CE1 := Lib.hid (show Cx w2 w1.heap.size [.int .i64 K, .int .u32 0, .string ⟨#[]⟩, .int .u8 0, .int .u8 0, .int .u8 0, .int .u8 0, .int .u8 0, .int .u8 0, .int .u32 0, .int .i64 0, .int .i64 0, .int .u8 0, .int .u8 0, .int .u8 0, .int .u8 0, .int .u8 0, .int .u8 0, .int .i64 0] from by simpa using CE1s.out)
  have hR := rd_other R1z.out hk2.out (by omega)
  clear O1z CA1z CE1z R1z CE1s hb2 hk2
  have j0 := CE1.out.key 0 _ rfl
  (try dsimp only at j0)
  by_cases e1 : K = 1
  · subst e1
    rw [if_pos rfl] at HQ
    clear j0
    obtain ⟨V0, hV0⟩ : ∃ v, adP (tkS 1 x) = v := ⟨_, rfl⟩
    obtain ⟨V1, hV1⟩ : ∃ v, owP (tkS 4 (tkS 1 x)) = v := ⟨_, rfl⟩
    obtain ⟨V2, hV2⟩ : ∃ v, mq (owS (tkS 4 (tkS 1 x))) 0 = v := ⟨_, rfl⟩
    obtain ⟨V3, hV3⟩ : ∃ v, mq (owS (tkS 4 (tkS 1 x))) 1 = v := ⟨_, rfl⟩
    obtain ⟨V4, hV4⟩ : ∃ v, mq (owS (tkS 4 (tkS 1 x))) 2 = v := ⟨_, rfl⟩
    obtain ⟨V5, hV5⟩ : ∃ v, mq (owS (tkS 4 (tkS 1 x))) 3 = v := ⟨_, rfl⟩
    obtain ⟨V6, hV6⟩ : ∃ v, mq (owS (tkS 4 (tkS 1 x))) 4 = v := ⟨_, rfl⟩
    obtain ⟨V7, hV7⟩ : ∃ v, mq (owS (tkS 4 (tkS 1 x))) 5 = v := ⟨_, rfl⟩
    simp only [hV0, hV1, hV2, hV3, hV4, hV5, hV6, hV7] at HQ
    have j0 := CE1.out.key 0 _ rfl
    (try dsimp only at j0)
    have HC0 := Lib.hid (rholder_any (tkS 1 x) b w2 hR)
    (try simp only [hV0, hV1, hV2, hV3, hV4, hV5, hV6, hV7] at HC0)
    clear hR
    go_upto_region 4 with fail
    go_wp2_with fail
    refine HC0.out.mono ?_
    rintro e u0 ⟨rfl, hRn0, hOn0⟩
    have On0 := Lib.hid (O1.out.trans hOn0)
    have CAn0 := Lib.hid (cx_ob CA1.out hOn0 (by omega))
    have CEn0 := Lib.hid (cx_ob CE1.out hOn0 (by omega))
    have Rn0 := Lib.hid hRn0
    clear hRn0 hOn0 HC0
    go_upto_region 15 with (refine at_put 28 (.tmp 13) _ w1.heap.size [.int .i64 1] [.int .u32 0, .string ⟨#[]⟩, .int .u8 0, .int .u8 0, .int .u8 0, .int .u8 0, .int .u8 0, .int .u8 0] [.int .u32 V0, .string V1, .int .u8 V2, .int .u8 V3, .int .u8 V4, .int .u8 V5, .int .u8 V6, .int .u8 V7] [.int .u32 0, .int .i64 0, .int .i64 0, .int .u8 0, .int .u8 0, .int .u8 0, .int .u8 0, .int .u8 0, .int .u8 0, .int .i64 0] (by simpa using CEn0.out) rfl (by rw [size_rholder]; rfl) (by simp [Value.oneCell']) rfl rfl rfl rfl ?_; intro v0 CE0s hb0 hk0)
    have O0t := Lib.hid (show Ob b w v0 from ⟨On0.out.bel.trans (hb0.out _ (by omega)), fun k hkb hkl => by rw [hk0.out k (by omega), On0.out.oth k hkb hkl]⟩)
    have CA0t := Lib.hid (cx_other CAn0.out hk0.out (by omega))
    have CE0t := Lib.hid (show Cx v0 w1.heap.size [.int .i64 1, .int .u32 V0, .string V1, .int .u8 V2, .int .u8 V3, .int .u8 V4, .int .u8 V5, .int .u8 V6, .int .u8 V7, .int .u32 0, .int .i64 0, .int .i64 0, .int .u8 0, .int .u8 0, .int .u8 0, .int .u8 0, .int .u8 0, .int .u8 0, .int .i64 0] from by simpa using CE0s.out)
    have hRt0 := rd_other Rn0.out hk0.out (by omega)
    clear On0 CAn0 CEn0 Rn0 CE0s hb0 hk0
    clear hV0 hV1 hV2 hV3 hV4 hV5 hV6 hV7
    have RF := Lib.hid hRt0
    clear hRt0
    go_wp2_with (first | (refine at_get 35 _ (.tmp 3) _ [] [.int .i64 1, .int .u32 V0, .string V1, .int .u8 V2, .int .u8 V3, .int .u8 V4, .int .u8 V5, .int .u8 V6, .int .u8 V7, .int .u32 0, .int .i64 0, .int .i64 0, .int .u8 0, .int .u8 0, .int .u8 0, .int .u8 0, .int .u8 0, .int .u8 0, .int .i64 0] [] (by simpa using CE0t.out) Try.underlying35 rfl (by rw [sizeEv]; rfl) rfl rfl rfl ?_) | (refine at_put 35 (.tmp 2) _ w.heap.size [] [.int .i64 0, .int .u32 0, .string ⟨#[]⟩, .int .u8 0, .int .u8 0, .int .u8 0, .int .u8 0, .int .u8 0, .int .u8 0, .int .u32 0, .int .i64 0, .int .i64 0, .int .u8 0, .int .u8 0, .int .u8 0, .int .u8 0, .int .u8 0, .int .u8 0, .int .i64 0] [.int .i64 1, .int .u32 V0, .string V1, .int .u8 V2, .int .u8 V3, .int .u8 V4, .int .u8 V5, .int .u8 V6, .int .u8 V7, .int .u32 0, .int .i64 0, .int .i64 0, .int .u8 0, .int .u8 0, .int .u8 0, .int .u8 0, .int .u8 0, .int .u8 0, .int .i64 0] [] (by simpa using CA0t.out) rfl (by rw [sizeEv]; rfl) (by simp [Value.oneCell']) rfl rfl rfl rfl ?_; intro w9 C9 hb9 hk9))
    have e9 : Cx w9 w.heap.size [.int .i64 1, .int .u32 V0, .string V1, .int .u8 V2, .int .u8 V3, .int .u8 V4, .int .u8 V5, .int .u8 V6, .int .u8 V7, .int .u32 0, .int .i64 0, .int .i64 0, .int .u8 0, .int .u8 0, .int .u8 0, .int .u8 0, .int .u8 0, .int .u8 0, .int .i64 0] := by simpa using C9.out
    refine bodyPost_ret (results_cell rfl _ _ _ _ rfl (loadv 35 _ e9 Try.underlying35 rfl (by rw [sizeEv]; rfl))) rfl ?_
    exact ⟨by rw [HQ.out]; rfl, by rw [HQ.out]; exact rd_other RF.out hk9.out (by omega), ⟨O0t.out.bel.trans (hb9.out _ (by omega)), fun k hkb hkl => by rw [hk9.out k (by omega), O0t.out.oth k hkb hkl]⟩⟩
  · rw [if_neg e1] at HQ
    by_cases e2 : K = 2 ∨ K = 6 ∨ K = 7
    · rw [if_pos e2] at HQ
      rcases e2 with rfl | rfl | rfl
      · clear j0
        obtain ⟨V0, hV0⟩ : ∃ v, adP (tkS 1 x) = v := ⟨_, rfl⟩
        simp only [hV0] at HQ
        have j0 := CE1.out.key 0 _ rfl
        (try dsimp only at j0)
        have HC0 := Lib.hid (raddr_any (tkS 1 x) b w2 hR)
        (try simp only [hV0] at HC0)
        clear hR
        go_upto_region 8 with fail
        go_wp2_with fail
        refine HC0.out.mono ?_
        rintro e u0 ⟨rfl, hRn0, hOn0⟩
        have On0 := Lib.hid (O1.out.trans hOn0)
        have CAn0 := Lib.hid (cx_ob CA1.out hOn0 (by omega))
        have CEn0 := Lib.hid (cx_ob CE1.out hOn0 (by omega))
        have Rn0 := Lib.hid hRn0
        clear hRn0 hOn0 HC0
        go_upto_region 15 with (refine at_put1 24 (.tmp 21) _ w1.heap.size [.int .i64 2] (.int .u32 0) (.int .u32 V0) [.string ⟨#[]⟩, .int .u8 0, .int .u8 0, .int .u8 0, .int .u8 0, .int .u8 0, .int .u8 0, .int .u32 0, .int .i64 0, .int .i64 0, .int .u8 0, .int .u8 0, .int .u8 0, .int .u8 0, .int .u8 0, .int .u8 0, .int .i64 0] (by simpa using CEn0.out) sizeAd rfl rfl rfl rfl rfl rfl ?_; intro v0 CE0s hb0 hk0)
        have O0t := Lib.hid (show Ob b w v0 from ⟨On0.out.bel.trans (hb0.out _ (by omega)), fun k hkb hkl => by rw [hk0.out k (by omega), On0.out.oth k hkb hkl]⟩)
        have CA0t := Lib.hid (cx_other CAn0.out hk0.out (by omega))
        have CE0t := Lib.hid (show Cx v0 w1.heap.size [.int .i64 2, .int .u32 V0, .string ⟨#[]⟩, .int .u8 0, .int .u8 0, .int .u8 0, .int .u8 0, .int .u8 0, .int .u8 0, .int .u32 0, .int .i64 0, .int .i64 0, .int .u8 0, .int .u8 0, .int .u8 0, .int .u8 0, .int .u8 0, .int .u8 0, .int .i64 0] from by simpa using CE0s.out)
        have hRt0 := rd_other Rn0.out hk0.out (by omega)
        clear On0 CAn0 CEn0 Rn0 CE0s hb0 hk0
        clear hV0
        have RF := Lib.hid hRt0
        clear hRt0
        go_wp2_with (first | (refine at_get 35 _ (.tmp 3) _ [] [.int .i64 2, .int .u32 V0, .string ⟨#[]⟩, .int .u8 0, .int .u8 0, .int .u8 0, .int .u8 0, .int .u8 0, .int .u8 0, .int .u32 0, .int .i64 0, .int .i64 0, .int .u8 0, .int .u8 0, .int .u8 0, .int .u8 0, .int .u8 0, .int .u8 0, .int .i64 0] [] (by simpa using CE0t.out) Try.underlying35 rfl (by rw [sizeEv]; rfl) rfl rfl rfl ?_) | (refine at_put 35 (.tmp 2) _ w.heap.size [] [.int .i64 0, .int .u32 0, .string ⟨#[]⟩, .int .u8 0, .int .u8 0, .int .u8 0, .int .u8 0, .int .u8 0, .int .u8 0, .int .u32 0, .int .i64 0, .int .i64 0, .int .u8 0, .int .u8 0, .int .u8 0, .int .u8 0, .int .u8 0, .int .u8 0, .int .i64 0] [.int .i64 2, .int .u32 V0, .string ⟨#[]⟩, .int .u8 0, .int .u8 0, .int .u8 0, .int .u8 0, .int .u8 0, .int .u8 0, .int .u32 0, .int .i64 0, .int .i64 0, .int .u8 0, .int .u8 0, .int .u8 0, .int .u8 0, .int .u8 0, .int .u8 0, .int .i64 0] [] (by simpa using CA0t.out) rfl (by rw [sizeEv]; rfl) (by simp [Value.oneCell']) rfl rfl rfl rfl ?_; intro w9 C9 hb9 hk9))
        have e9 : Cx w9 w.heap.size [.int .i64 2, .int .u32 V0, .string ⟨#[]⟩, .int .u8 0, .int .u8 0, .int .u8 0, .int .u8 0, .int .u8 0, .int .u8 0, .int .u32 0, .int .i64 0, .int .i64 0, .int .u8 0, .int .u8 0, .int .u8 0, .int .u8 0, .int .u8 0, .int .u8 0, .int .i64 0] := by simpa using C9.out
        refine bodyPost_ret (results_cell rfl _ _ _ _ rfl (loadv 35 _ e9 Try.underlying35 rfl (by rw [sizeEv]; rfl))) rfl ?_
        exact ⟨by rw [HQ.out]; rfl, by rw [HQ.out]; exact rd_other RF.out hk9.out (by omega), ⟨O0t.out.bel.trans (hb9.out _ (by omega)), fun k hkb hkl => by rw [hk9.out k (by omega), O0t.out.oth k hkb hkl]⟩⟩
      · clear j0
        obtain ⟨V0, hV0⟩ : ∃ v, adP (tkS 1 x) = v := ⟨_, rfl⟩
        simp only [hV0] at HQ
        have j0 := CE1.out.key 0 _ rfl
        (try dsimp only at j0)
        have HC0 := Lib.hid (raddr_any (tkS 1 x) b w2 hR)
        (try simp only [hV0] at HC0)
        clear hR
        go_upto_region 8 with fail
        go_wp2_with fail
        refine HC0.out.mono ?_
        rintro e u0 ⟨rfl, hRn0, hOn0⟩
        have On0 := Lib.hid (O1.out.trans hOn0)
        have CAn0 := Lib.hid (cx_ob CA1.out hOn0 (by omega))
        have CEn0 := Lib.hid (cx_ob CE1.out hOn0 (by omega))
        have Rn0 := Lib.hid hRn0
        clear hRn0 hOn0 HC0
        go_upto_region 15 with (refine at_put1 24 (.tmp 21) _ w1.heap.size [.int .i64 6] (.int .u32 0) (.int .u32 V0) [.string ⟨#[]⟩, .int .u8 0, .int .u8 0, .int .u8 0, .int .u8 0, .int .u8 0, .int .u8 0, .int .u32 0, .int .i64 0, .int .i64 0, .int .u8 0, .int .u8 0, .int .u8 0, .int .u8 0, .int .u8 0, .int .u8 0, .int .i64 0] (by simpa using CEn0.out) sizeAd rfl rfl rfl rfl rfl rfl ?_; intro v0 CE0s hb0 hk0)
        have O0t := Lib.hid (show Ob b w v0 from ⟨On0.out.bel.trans (hb0.out _ (by omega)), fun k hkb hkl => by rw [hk0.out k (by omega), On0.out.oth k hkb hkl]⟩)
        have CA0t := Lib.hid (cx_other CAn0.out hk0.out (by omega))
        have CE0t := Lib.hid (show Cx v0 w1.heap.size [.int .i64 6, .int .u32 V0, .string ⟨#[]⟩, .int .u8 0, .int .u8 0, .int .u8 0, .int .u8 0, .int .u8 0, .int .u8 0, .int .u32 0, .int .i64 0, .int .i64 0, .int .u8 0, .int .u8 0, .int .u8 0, .int .u8 0, .int .u8 0, .int .u8 0, .int .i64 0] from by simpa using CE0s.out)
        have hRt0 := rd_other Rn0.out hk0.out (by omega)
        clear On0 CAn0 CEn0 Rn0 CE0s hb0 hk0
        clear hV0
        have RF := Lib.hid hRt0
        clear hRt0
        go_wp2_with (first | (refine at_get 35 _ (.tmp 3) _ [] [.int .i64 6, .int .u32 V0, .string ⟨#[]⟩, .int .u8 0, .int .u8 0, .int .u8 0, .int .u8 0, .int .u8 0, .int .u8 0, .int .u32 0, .int .i64 0, .int .i64 0, .int .u8 0, .int .u8 0, .int .u8 0, .int .u8 0, .int .u8 0, .int .u8 0, .int .i64 0] [] (by simpa using CE0t.out) Try.underlying35 rfl (by rw [sizeEv]; rfl) rfl rfl rfl ?_) | (refine at_put 35 (.tmp 2) _ w.heap.size [] [.int .i64 0, .int .u32 0, .string ⟨#[]⟩, .int .u8 0, .int .u8 0, .int .u8 0, .int .u8 0, .int .u8 0, .int .u8 0, .int .u32 0, .int .i64 0, .int .i64 0, .int .u8 0, .int .u8 0, .int .u8 0, .int .u8 0, .int .u8 0, .int .u8 0, .int .i64 0] [.int .i64 6, .int .u32 V0, .string ⟨#[]⟩, .int .u8 0, .int .u8 0, .int .u8 0, .int .u8 0, .int .u8 0, .int .u8 0, .int .u32 0, .int .i64 0, .int .i64 0, .int .u8 0, .int .u8 0, .int .u8 0, .int .u8 0, .int .u8 0, .int .u8 0, .int .i64 0] [] (by simpa using CA0t.out) rfl (by rw [sizeEv]; rfl) (by simp [Value.oneCell']) rfl rfl rfl rfl ?_; intro w9 C9 hb9 hk9))
        have e9 : Cx w9 w.heap.size [.int .i64 6, .int .u32 V0, .string ⟨#[]⟩, .int .u8 0, .int .u8 0, .int .u8 0, .int .u8 0, .int .u8 0, .int .u8 0, .int .u32 0, .int .i64 0, .int .i64 0, .int .u8 0, .int .u8 0, .int .u8 0, .int .u8 0, .int .u8 0, .int .u8 0, .int .i64 0] := by simpa using C9.out
        refine bodyPost_ret (results_cell rfl _ _ _ _ rfl (loadv 35 _ e9 Try.underlying35 rfl (by rw [sizeEv]; rfl))) rfl ?_
        exact ⟨by rw [HQ.out]; rfl, by rw [HQ.out]; exact rd_other RF.out hk9.out (by omega), ⟨O0t.out.bel.trans (hb9.out _ (by omega)), fun k hkb hkl => by rw [hk9.out k (by omega), O0t.out.oth k hkb hkl]⟩⟩
      · clear j0
        obtain ⟨V0, hV0⟩ : ∃ v, adP (tkS 1 x) = v := ⟨_, rfl⟩
        simp only [hV0] at HQ
        have j0 := CE1.out.key 0 _ rfl
        (try dsimp only at j0)
        have HC0 := Lib.hid (raddr_any (tkS 1 x) b w2 hR)
        (try simp only [hV0] at HC0)
        clear hR
        go_upto_region 8 with fail
        go_wp2_with fail
        refine HC0.out.mono ?_
        rintro e u0 ⟨rfl, hRn0, hOn0⟩
        have On0 := Lib.hid (O1.out.trans hOn0)
        have CAn0 := Lib.hid (cx_ob CA1.out hOn0 (by omega))
        have CEn0 := Lib.hid (cx_ob CE1.out hOn0 (by omega))
        have Rn0 := Lib.hid hRn0
        clear hRn0 hOn0 HC0
        go_upto_region 15 with (refine at_put1 24 (.tmp 21) _ w1.heap.size [.int .i64 7] (.int .u32 0) (.int .u32 V0) [.string ⟨#[]⟩, .int .u8 0, .int .u8 0, .int .u8 0, .int .u8 0, .int .u8 0, .int .u8 0, .int .u32 0, .int .i64 0, .int .i64 0, .int .u8 0, .int .u8 0, .int .u8 0, .int .u8 0, .int .u8 0, .int .u8 0, .int .i64 0] (by simpa using CEn0.out) sizeAd rfl rfl rfl rfl rfl rfl ?_; intro v0 CE0s hb0 hk0)
        have O0t := Lib.hid (show Ob b w v0 from ⟨On0.out.bel.trans (hb0.out _ (by omega)), fun k hkb hkl => by rw [hk0.out k (by omega), On0.out.oth k hkb hkl]⟩)
        have CA0t := Lib.hid (cx_other CAn0.out hk0.out (by omega))
        have CE0t := Lib.hid (show Cx v0 w1.heap.size [.int .i64 7, .int .u32 V0, .string ⟨#[]⟩, .int .u8 0, .int .u8 0, .int .u8 0, .int .u8 0, .int .u8 0, .int .u8 0, .int .u32 0, .int .i64 0, .int .i64 0, .int .u8 0, .int .u8 0, .int .u8 0, .int .u8 0, .int .u8 0, .int .u8 0, .int .i64 0] from by simpa using CE0s.out)
        have hRt0 := rd_other Rn0.out hk0.out (by omega)
        clear On0 CAn0 CEn0 Rn0 CE0s hb0 hk0
        clear hV0
        have RF := Lib.hid hRt0
        clear hRt0
        go_wp2_with (first | (refine at_get 35 _ (.tmp 3) _ [] [.int .i64 7, .int .u32 V0, .string ⟨#[]⟩, .int .u8 0, .int .u8 0, .int .u8 0, .int .u8 0, .int .u8 0, .int .u8 0, .int .u32 0, .int .i64 0, .int .i64 0, .int .u8 0, .int .u8 0, .int .u8 0, .int .u8 0, .int .u8 0, .int .u8 0, .int .i64 0] [] (by simpa using CE0t.out) Try.underlying35 rfl (by rw [sizeEv]; rfl) rfl rfl rfl ?_) | (refine at_put 35 (.tmp 2) _ w.heap.size [] [.int .i64 0, .int .u32 0, .string ⟨#[]⟩, .int .u8 0, .int .u8 0, .int .u8 0, .int .u8 0, .int .u8 0, .int .u8 0, .int .u32 0, .int .i64 0, .int .i64 0, .int .u8 0, .int .u8 0, .int .u8 0, .int .u8 0, .int .u8 0, .int .u8 0, .int .i64 0] [.int .i64 7, .int .u32 V0, .string ⟨#[]⟩, .int .u8 0, .int .u8 0, .int .u8 0, .int .u8 0, .int .u8 0, .int .u8 0, .int .u32 0, .int .i64 0, .int .i64 0, .int .u8 0, .int .u8 0, .int .u8 0, .int .u8 0, .int .u8 0, .int .u8 0, .int .i64 0] [] (by simpa using CA0t.out) rfl (by rw [sizeEv]; rfl) (by simp [Value.oneCell']) rfl rfl rfl rfl ?_; intro w9 C9 hb9 hk9))
        have e9 : Cx w9 w.heap.size [.int .i64 7, .int .u32 V0, .string ⟨#[]⟩, .int .u8 0, .int .u8 0, .int .u8 0, .int .u8 0, .int .u8 0, .int .u8 0, .int .u32 0, .int .i64 0, .int .i64 0, .int .u8 0, .int .u8 0, .int .u8 0, .int .u8 0, .int .u8 0, .int .u8 0, .int .i64 0] := by simpa using C9.out
        refine bodyPost_ret (results_cell rfl _ _ _ _ rfl (loadv 35 _ e9 Try.underlying35 rfl (by rw [sizeEv]; rfl))) rfl ?_
        exact ⟨by rw [HQ.out]; rfl, by rw [HQ.out]; exact rd_other RF.out hk9.out (by omega), ⟨O0t.out.bel.trans (hb9.out _ (by omega)), fun k hkb hkl => by rw [hk9.out k (by omega), O0t.out.oth k hkb hkl]⟩⟩
    · rw [if_neg e2] at HQ
      by_cases e3 : K = 3 ∨ K = 4
      · rw [if_pos e3] at HQ
        rcases e3 with rfl | rfl
        · clear j0
          obtain ⟨V0, hV0⟩ : ∃ v, adP (tkS 1 x) = v := ⟨_, rfl⟩
          obtain ⟨V1, hV1⟩ : ∃ v, vl (tkP 1 (tkS 4 (tkS 1 x))) = v := ⟨_, rfl⟩
          simp only [hV0, hV1] at HQ
          have j0 := CE1.out.key 0 _ rfl
          (try dsimp only at j0)
          have HC0 := Lib.hid (rblock_any (tkS 1 x) b w2 hR)
          (try simp only [hV0, hV1] at HC0)
          clear hR
          go_upto_region 11 with fail
          go_wp2_with fail
          refine HC0.out.mono ?_
          rintro e u0 ⟨rfl, hRn0, hOn0⟩
          have On0 := Lib.hid (O1.out.trans hOn0)
          have CAn0 := Lib.hid (cx_ob CA1.out hOn0 (by omega))
          have CEn0 := Lib.hid (cx_ob CE1.out hOn0 (by omega))
          have Rn0 := Lib.hid hRn0
          clear hRn0 hOn0 HC0
          go_upto_region 15 with (refine at_put 30 (.tmp 27) _ w1.heap.size [.int .i64 3, .int .u32 0, .string ⟨#[]⟩, .int .u8 0, .int .u8 0, .int .u8 0, .int .u8 0, .int .u8 0, .int .u8 0] [.int .u32 0, .int .i64 0] [.int .u32 V0, .int .i64 V1] [.int .i64 0, .int .u8 0, .int .u8 0, .int .u8 0, .int .u8 0, .int .u8 0, .int .u8 0, .int .i64 0] (by simpa using CEn0.out) rfl (by rw [size_rblock]; rfl) (by simp [Value.oneCell']) rfl rfl rfl rfl ?_; intro v0 CE0s hb0 hk0)
          have O0t := Lib.hid (show Ob b w v0 from ⟨On0.out.bel.trans (hb0.out _ (by omega)), fun k hkb hkl => by rw [hk0.out k (by omega), On0.out.oth k hkb hkl]⟩)
          have CA0t := Lib.hid (cx_other CAn0.out hk0.out (by omega))
          have CE0t := Lib.hid (show Cx v0 w1.heap.size [.int .i64 3, .int .u32 0, .string ⟨#[]⟩, .int .u8 0, .int .u8 0, .int .u8 0, .int .u8 0, .int .u8 0, .int .u8 0, .int .u32 V0, .int .i64 V1, .int .i64 0, .int .u8 0, .int .u8 0, .int .u8 0, .int .u8 0, .int .u8 0, .int .u8 0, .int .i64 0] from by simpa using CE0s.out)
          have hRt0 := rd_other Rn0.out hk0.out (by omega)
          clear On0 CAn0 CEn0 Rn0 CE0s hb0 hk0
          clear hV0 hV1
          have RF := Lib.hid hRt0
          clear hRt0
          go_wp2_with (first | (refine at_get 35 _ (.tmp 3) _ [] [.int .i64 3, .int .u32 0, .string ⟨#[]⟩, .int .u8 0, .int .u8 0, .int .u8 0, .int .u8 0, .int .u8 0, .int .u8 0, .int .u32 V0, .int .i64 V1, .int .i64 0, .int .u8 0, .int .u8 0, .int .u8 0, .int .u8 0, .int .u8 0, .int .u8 0, .int .i64 0] [] (by simpa using CE0t.out) Try.underlying35 rfl (by rw [sizeEv]; rfl) rfl rfl rfl ?_) | (refine at_put 35 (.tmp 2) _ w.heap.size [] [.int .i64 0, .int .u32 0, .string ⟨#[]⟩, .int .u8 0, .int .u8 0, .int .u8 0, .int .u8 0, .int .u8 0, .int .u8 0, .int .u32 0, .int .i64 0, .int .i64 0, .int .u8 0, .int .u8 0, .int .u8 0, .int .u8 0, .int .u8 0, .int .u8 0, .int .i64 0] [.int .i64 3, .int .u32 0, .string ⟨#[]⟩, .int .u8 0, .int .u8 0, .int .u8 0, .int .u8 0, .int .u8 0, .int .u8 0, .int .u32 V0, .int .i64 V1, .int .i64 0, .int .u8 0, .int .u8 0, .int .u8 0, .int .u8 0, .int .u8 0, .int .u8 0, .int .i64 0] [] (by simpa using CA0t.out) rfl (by rw [sizeEv]; rfl) (by simp [Value.oneCell']) rfl rfl rfl rfl ?_; intro w9 C9 hb9 hk9))
          have e9 : Cx w9 w.heap.size [.int .i64 3, .int .u32 0, .string ⟨#[]⟩, .int .u8 0, .int .u8 0, .int .u8 0, .int .u8 0, .int .u8 0, .int .u8 0, .int .u32 V0, .int .i64 V1, .int .i64 0, .int .u8 0, .int .u8 0, .int .u8 0, .int .u8 0, .int .u8 0, .int .u8 0, .int .i64 0] := by simpa using C9.out
          refine bodyPost_ret (results_cell rfl _ _ _ _ rfl (loadv 35 _ e9 Try.underlying35 rfl (by rw [sizeEv]; rfl))) rfl ?_
          exact ⟨by rw [HQ.out]; rfl, by rw [HQ.out]; exact rd_other RF.out hk9.out (by omega), ⟨O0t.out.bel.trans (hb9.out _ (by omega)), fun k hkb hkl => by rw [hk9.out k (by omega), O0t.out.oth k hkb hkl]⟩⟩
        · clear j0
          obtain ⟨V0, hV0⟩ : ∃ v, adP (tkS 1 x) = v := ⟨_, rfl⟩
          obtain ⟨V1, hV1⟩ : ∃ v, vl (tkP 1 (tkS 4 (tkS 1 x))) = v := ⟨_, rfl⟩
          simp only [hV0, hV1] at HQ
          have j0 := CE1.out.key 0 _ rfl
          (try dsimp only at j0)
          have HC0 := Lib.hid (rblock_any (tkS 1 x) b w2 hR)
          (try simp only [hV0, hV1] at HC0)
          clear hR
          go_upto_region 11 with fail
          go_wp2_with fail
          refine HC0.out.mono ?_
          rintro e u0 ⟨rfl, hRn0, hOn0⟩
          have On0 := Lib.hid (O1.out.trans hOn0)
          have CAn0 := Lib.hid (cx_ob CA1.out hOn0 (by omega))
          have CEn0 := Lib.hid (cx_ob CE1.out hOn0 (by omega))
          have Rn0 := Lib.hid hRn0
          clear hRn0 hOn0 HC0
          go_upto_region 15 with (refine at_put 30 (.tmp 27) _ w1.heap.size [.int .i64 4, .int .u32 0, .string ⟨#[]⟩, .int .u8 0, .int .u8 0, .int .u8 0, .int .u8 0, .int .u8 0, .int .u8 0] [.int .u32 0, .int .i64 0] [.int .u32 V0, .int .i64 V1] [.int .i64 0, .int .u8 0, .int .u8 0, .int .u8 0, .int .u8 0, .int .u8 0, .int .u8 0, .int .i64 0] (by simpa using CEn0.out) rfl (by rw [size_rblock]; rfl) (by simp [Value.oneCell']) rfl rfl rfl rfl ?_; intro v0 CE0s hb0 hk0)
          have O0t := Lib.hid (show Ob b w v0 from ⟨On0.out.bel.trans (hb0.out _ (by omega)), fun k hkb hkl => by rw [hk0.out k (by omega), On0.out.oth k hkb hkl]⟩)
          have CA0t := Lib.hid (cx_other CAn0.out hk0.out (by omega))
          have CE0t := Lib.hid (show Cx v0 w1.heap.size [.int .i64 4, .int .u32 0, .string ⟨#[]⟩, .int .u8 0, .int .u8 0, .int .u8 0, .int .u8 0, .int .u8 0, .int .u8 0, .int .u32 V0, .int .i64 V1, .int .i64 0, .int .u8 0, .int .u8 0, .int .u8 0, .int .u8 0, .int .u8 0, .int .u8 0, .int .i64 0] from by simpa using CE0s.out)
          have hRt0 := rd_other Rn0.out hk0.out (by omega)
          clear On0 CAn0 CEn0 Rn0 CE0s hb0 hk0
          clear hV0 hV1
          have RF := Lib.hid hRt0
          clear hRt0
          go_wp2_with (first | (refine at_get 35 _ (.tmp 3) _ [] [.int .i64 4, .int .u32 0, .string ⟨#[]⟩, .int .u8 0, .int .u8 0, .int .u8 0, .int .u8 0, .int .u8 0, .int .u8 0, .int .u32 V0, .int .i64 V1, .int .i64 0, .int .u8 0, .int .u8 0, .int .u8 0, .int .u8 0, .int .u8 0, .int .u8 0, .int .i64 0] [] (by simpa using CE0t.out) Try.underlying35 rfl (by rw [sizeEv]; rfl) rfl rfl rfl ?_) | (refine at_put 35 (.tmp 2) _ w.heap.size [] [.int .i64 0, .int .u32 0, .string ⟨#[]⟩, .int .u8 0, .int .u8 0, .int .u8 0, .int .u8 0, .int .u8 0, .int .u8 0, .int .u32 0, .int .i64 0, .int .i64 0, .int .u8 0, .int .u8 0, .int .u8 0, .int .u8 0, .int .u8 0, .int .u8 0, .int .i64 0] [.int .i64 4, .int .u32 0, .string ⟨#[]⟩, .int .u8 0, .int .u8 0, .int .u8 0, .int .u8 0, .int .u8 0, .int .u8 0, .int .u32 V0, .int .i64 V1, .int .i64 0, .int .u8 0, .int .u8 0, .int .u8 0, .int .u8 0, .int .u8 0, .int .u8 0, .int .i64 0] [] (by simpa using CA0t.out) rfl (by rw [sizeEv]; rfl) (by simp [Value.oneCell']) rfl rfl rfl rfl ?_; intro w9 C9 hb9 hk9))
          have e9 : Cx w9 w.heap.size [.int .i64 4, .int .u32 0, .string ⟨#[]⟩, .int .u8 0, .int .u8 0, .int .u8 0, .int .u8 0, .int .u8 0, .int .u8 0, .int .u32 V0, .int .i64 V1, .int .i64 0, .int .u8 0, .int .u8 0, .int .u8 0, .int .u8 0, .int .u8 0, .int .u8 0, .int .i64 0] := by simpa using C9.out
          refine bodyPost_ret (results_cell rfl _ _ _ _ rfl (loadv 35 _ e9 Try.underlying35 rfl (by rw [sizeEv]; rfl))) rfl ?_
          exact ⟨by rw [HQ.out]; rfl, by rw [HQ.out]; exact rd_other RF.out hk9.out (by omega), ⟨O0t.out.bel.trans (hb9.out _ (by omega)), fun k hkb hkl => by rw [hk9.out k (by omega), O0t.out.oth k hkb hkl]⟩⟩
      · rw [if_neg e3] at HQ
        by_cases e5 : K = 5
        · subst e5
          rw [if_pos rfl] at HQ
          clear j0
          obtain ⟨V0, hV0⟩ : ∃ v, adP (tkS 1 x) = v := ⟨_, rfl⟩
          obtain ⟨V1, hV1⟩ : ∃ v, vl (tkP 1 (tkS 4 (tkS 1 x))) = v := ⟨_, rfl⟩
          obtain ⟨V2, hV2⟩ : ∃ v, mq (tkS 1 (tkS 4 (tkS 1 x))) 0 = v := ⟨_, rfl⟩
          obtain ⟨V3, hV3⟩ : ∃ v, mq (tkS 1 (tkS 4 (tkS 1 x))) 1 = v := ⟨_, rfl⟩
          obtain ⟨V4, hV4⟩ : ∃ v, mq (tkS 1 (tkS 4 (tkS 1 x))) 2 = v := ⟨_, rfl⟩
          obtain ⟨V5, hV5⟩ : ∃ v, mq (tkS 1 (tkS 4 (tkS 1 x))) 3 = v := ⟨_, rfl⟩
          obtain ⟨V6, hV6⟩ : ∃ v, mq (tkS 1 (tkS 4 (tkS 1 x))) 4 = v := ⟨_, rfl⟩
          obtain ⟨V7, hV7⟩ : ∃ v, mq (tkS 1 (tkS 4 (tkS 1 x))) 5 = v := ⟨_, rfl⟩
          simp only [hV0, hV1, hV2, hV3, hV4, hV5, hV6, hV7] at HQ
          have j0 := CE1.out.key 0 _ rfl
          (try dsimp only at j0)
          have HC0 := Lib.hid (raddr_any (tkS 1 x) b w2 hR)
          (try simp only [hV0, hV1, hV2, hV3, hV4, hV5, hV6, hV7] at HC0)
          clear hR
          go_upto_region 13 with fail
          go_wp2_with fail
          refine HC0.out.mono ?_
          rintro e u0 ⟨rfl, hRn0, hOn0⟩
          have On0 := Lib.hid (O1.out.trans hOn0)
          have CAn0 := Lib.hid (cx_ob CA1.out hOn0 (by omega))
          have CEn0 := Lib.hid (cx_ob CE1.out hOn0 (by omega))
          have Rn0 := Lib.hid hRn0
          clear hRn0 hOn0 HC0
          go_upto_region 14 with (refine at_put1 24 (.tmp 33) _ w1.heap.size [.int .i64 5] (.int .u32 0) (.int .u32 V0) [.string ⟨#[]⟩, .int .u8 0, .int .u8 0, .int .u8 0, .int .u8 0, .int .u8 0, .int .u8 0, .int .u32 0, .int .i64 0, .int .i64 0, .int .u8 0, .int .u8 0, .int .u8 0, .int .u8 0, .int .u8 0, .int .u8 0, .int .i64 0] (by simpa using CEn0.out) sizeAd rfl rfl rfl rfl rfl rfl ?_; intro v0 CE0s hb0 hk0)
          have O0t := Lib.hid (show Ob b w v0 from ⟨On0.out.bel.trans (hb0.out _ (by omega)), fun k hkb hkl => by rw [hk0.out k (by omega), On0.out.oth k hkb hkl]⟩)
          have CA0t := Lib.hid (cx_other CAn0.out hk0.out (by omega))
          have CE0t := Lib.hid (show Cx v0 w1.heap.size [.int .i64 5, .int .u32 V0, .string ⟨#[]⟩, .int .u8 0, .int .u8 0, .int .u8 0, .int .u8 0, .int .u8 0, .int .u8 0, .int .u32 0, .int .i64 0, .int .i64 0, .int .u8 0, .int .u8 0, .int .u8 0, .int .u8 0, .int .u8 0, .int .u8 0, .int .i64 0] from by simpa using CE0s.out)
          have hRt0 := rd_other Rn0.out hk0.out (by omega)
          clear On0 CAn0 CEn0 Rn0 CE0s hb0 hk0
          have HC1 := Lib.hid (rsighted_any (tkS 4 (tkS 1 x)) b v0 hRt0)
          (try simp only [hV0, hV1, hV2, hV3, hV4, hV5, hV6, hV7] at HC1)
          clear hRt0
          go_wp2_with fail
          refine HC1.out.mono ?_
          rintro e u1 ⟨rfl, hRn1, hOn1⟩
          have On1 := Lib.hid (O0t.out.trans hOn1)
          have CAn1 := Lib.hid (cx_ob CA0t.out hOn1 (by omega))
          have CEn1 := Lib.hid (cx_ob CE0t.out hOn1 (by omega))
          have Rn1 := Lib.hid hRn1
          clear hRn1 hOn1 HC1
          go_upto_region 15 with (refine at_put 33 (.tmp 36) _ w1.heap.size [.int .i64 5, .int .u32 V0, .string ⟨#[]⟩, .int .u8 0, .int .u8 0, .int .u8 0, .int .u8 0, .int .u8 0, .int .u8 0, .int .u32 0, .int .i64 0] [.int .i64 0, .int .u8 0, .int .u8 0, .int .u8 0, .int .u8 0, .int .u8 0, .int .u8 0, .int .i64 0] [.int .i64 V1, .int .u8 V2, .int .u8 V3, .int .u8 V4, .int .u8 V5, .int .u8 V6, .int .u8 V7, .int .i64 0] [] (by simpa using CEn1.out) rfl (by rw [size_rsighted]; rfl) (by simp [Value.oneCell']) rfl rfl rfl rfl ?_; intro v1 CE1s hb1 hk1)
          have O1t := Lib.hid (show Ob b w v1 from ⟨On1.out.bel.trans (hb1.out _ (by omega)), fun k hkb hkl => by rw [hk1.out k (by omega), On1.out.oth k hkb hkl]⟩)
          have CA1t := Lib.hid (cx_other CAn1.out hk1.out (by omega))
          have CE1t := Lib.hid (show Cx v1 w1.heap.size [.int .i64 5, .int .u32 V0, .string ⟨#[]⟩, .int .u8 0, .int .u8 0, .int .u8 0, .int .u8 0, .int .u8 0, .int .u8 0, .int .u32 0, .int .i64 0, .int .i64 V1, .int .u8 V2, .int .u8 V3, .int .u8 V4, .int .u8 V5, .int .u8 V6, .int .u8 V7, .int .i64 0] from by simpa using CE1s.out)
          have hRt1 := rd_other Rn1.out hk1.out (by omega)
          clear On1 CAn1 CEn1 Rn1 CE1s hb1 hk1
          clear hV0 hV1 hV2 hV3 hV4 hV5 hV6 hV7
          have RF := Lib.hid hRt1
          clear hRt1
          go_wp2_with (first | (refine at_get 35 _ (.tmp 3) _ [] [.int .i64 5, .int .u32 V0, .string ⟨#[]⟩, .int .u8 0, .int .u8 0, .int .u8 0, .int .u8 0, .int .u8 0, .int .u8 0, .int .u32 0, .int .i64 0, .int .i64 V1, .int .u8 V2, .int .u8 V3, .int .u8 V4, .int .u8 V5, .int .u8 V6, .int .u8 V7, .int .i64 0] [] (by simpa using CE1t.out) Try.underlying35 rfl (by rw [sizeEv]; rfl) rfl rfl rfl ?_) | (refine at_put 35 (.tmp 2) _ w.heap.size [] [.int .i64 0, .int .u32 0, .string ⟨#[]⟩, .int .u8 0, .int .u8 0, .int .u8 0, .int .u8 0, .int .u8 0, .int .u8 0, .int .u32 0, .int .i64 0, .int .i64 0, .int .u8 0, .int .u8 0, .int .u8 0, .int .u8 0, .int .u8 0, .int .u8 0, .int .i64 0] [.int .i64 5, .int .u32 V0, .string ⟨#[]⟩, .int .u8 0, .int .u8 0, .int .u8 0, .int .u8 0, .int .u8 0, .int .u8 0, .int .u32 0, .int .i64 0, .int .i64 V1, .int .u8 V2, .int .u8 V3, .int .u8 V4, .int .u8 V5, .int .u8 V6, .int .u8 V7, .int .i64 0] [] (by simpa using CA1t.out) rfl (by rw [sizeEv]; rfl) (by simp [Value.oneCell']) rfl rfl rfl rfl ?_; intro w9 C9 hb9 hk9))
          have e9 : Cx w9 w.heap.size [.int .i64 5, .int .u32 V0, .string ⟨#[]⟩, .int .u8 0, .int .u8 0, .int .u8 0, .int .u8 0, .int .u8 0, .int .u8 0, .int .u32 0, .int .i64 0, .int .i64 V1, .int .u8 V2, .int .u8 V3, .int .u8 V4, .int .u8 V5, .int .u8 V6, .int .u8 V7, .int .i64 0] := by simpa using C9.out
          refine bodyPost_ret (results_cell rfl _ _ _ _ rfl (loadv 35 _ e9 Try.underlying35 rfl (by rw [sizeEv]; rfl))) rfl ?_
          exact ⟨by rw [HQ.out]; rfl, by rw [HQ.out]; exact rd_other RF.out hk9.out (by omega), ⟨O1t.out.bel.trans (hb9.out _ (by omega)), fun k hkb hkl => by rw [hk9.out k (by omega), O1t.out.oth k hkb hkl]⟩⟩
        · rw [if_neg e5] at HQ
          have d1 : (K == 1) = false := beq_eq_false_iff_ne.2 e1
          have d2 : (K == 2) = false := beq_eq_false_iff_ne.2 fun h => e2 (.inl h)
          have d6 : (K == 6) = false := beq_eq_false_iff_ne.2 fun h => e2 (.inr (.inl h))
          have d7 : (K == 7) = false := beq_eq_false_iff_ne.2 fun h => e2 (.inr (.inr h))
          have d3 : (K == 3) = false := beq_eq_false_iff_ne.2 fun h => e3 (.inl h)
          have d4 : (K == 4) = false := beq_eq_false_iff_ne.2 fun h => e3 (.inr h)
          have d5 : (K == 5) = false := beq_eq_false_iff_ne.2 e5
          have RF := Lib.hid hR
          clear hR
          go_upto_region 15 with fail
          go_wp2_with (first | (refine at_get 35 _ (.tmp 3) _ [] [.int .i64 K, .int .u32 0, .string ⟨#[]⟩, .int .u8 0, .int .u8 0, .int .u8 0, .int .u8 0, .int .u8 0, .int .u8 0, .int .u32 0, .int .i64 0, .int .i64 0, .int .u8 0, .int .u8 0, .int .u8 0, .int .u8 0, .int .u8 0, .int .u8 0, .int .i64 0] [] (by simpa using CE1.out) Try.underlying35 rfl (by rw [sizeEv]; rfl) rfl rfl rfl ?_) | (refine at_put 35 (.tmp 2) _ w.heap.size [] [.int .i64 0, .int .u32 0, .string ⟨#[]⟩, .int .u8 0, .int .u8 0, .int .u8 0, .int .u8 0, .int .u8 0, .int .u8 0, .int .u32 0, .int .i64 0, .int .i64 0, .int .u8 0, .int .u8 0, .int .u8 0, .int .u8 0, .int .u8 0, .int .u8 0, .int .i64 0] [.int .i64 K, .int .u32 0, .string ⟨#[]⟩, .int .u8 0, .int .u8 0, .int .u8 0, .int .u8 0, .int .u8 0, .int .u8 0, .int .u32 0, .int .i64 0, .int .i64 0, .int .u8 0, .int .u8 0, .int .u8 0, .int .u8 0, .int .u8 0, .int .u8 0, .int .i64 0] [] (by simpa using CA1.out) rfl (by rw [sizeEv]; rfl) (by simp [Value.oneCell']) rfl rfl rfl rfl ?_; intro w9 C9 hb9 hk9))
          have e9 : Cx w9 w.heap.size [.int .i64 K, .int .u32 0, .string ⟨#[]⟩, .int .u8 0, .int .u8 0, .int .u8 0, .int .u8 0, .int .u8 0, .int .u8 0, .int .u32 0, .int .i64 0, .int .i64 0, .int .u8 0, .int .u8 0, .int .u8 0, .int .u8 0, .int .u8 0, .int .u8 0, .int .i64 0] := by simpa using C9.out
          refine bodyPost_ret (results_cell rfl _ _ _ _ rfl (loadv 35 _ e9 Try.underlying35 rfl (by rw [sizeEv]; rfl))) rfl ?_
          exact ⟨by rw [HQ.out]; rfl, by rw [HQ.out]; exact rd_other RF.out hk9.out (by omega), ⟨O1.out.bel.trans (hb9.out _ (by omega)), fun k hkb hkl => by rw [hk9.out k (by omega), O1.out.oth k hkb hkl]⟩⟩
end Go.Proofs.Ytbjlklkmcpnemaa
