/-
  The contract of ReadArp, where the bytes are formed: the packet, but an answer whose station is none or many. Conditions: rows of bytes that can be read.
-/
import Derived.Test.YtgdbkjiifliobaaReadArp
import Derived.Test.YtgdbkjiifliobaaOt
import Derived.StillTailTactics
set_option linter.unusedSimpArgs false
set_option linter.unusedVariables false
namespace Go.Proofs.Ytgdbkjiifliobaa
open Go.RowKit

/-- A new packet that is zero. -/
def Nb (B : Nat) : Value → World → Prop := fun v W => ∃ b, v = .pointer (some ⟨b, 0, none⟩) ∧ B ≤ b ∧ b < W.heap.size ∧ Pb W b zp
theorem stable_nb (B : Nat) : Stable (Nb B) := by
  rintro v w w' ⟨b, rfl, h1, h2, h3⟩ hb
  exact ⟨b, rfl, h1, by have := hb.size; omega, h3.keep hb h2⟩
theorem calls_fy {f : FuncId} {args : Array Value} {W : World} {v : Value} {Φ : List (Value → World → Prop)} {i : Nat} (h : Calls Try.prog f args W fun e w' => e = .returned v ∧ Below W.heap.size W w') (hi : fAt Φ i = fx v) :
    Calls Try.prog f args W fun e w' => ∃ v, e = .returned v ∧ Below W.heap.size W w' ∧ fAt Φ i v w' := h.mono fun _ _ ⟨he, hb⟩ => ⟨v, he, hb, by rw [hi]; exact rfl⟩
theorem drop6 {zs : List Nat} {k : Nat} (h : k + 6 ≤ zs.length) : zs.drop k = zs.getD k 0 :: zs.getD (k + 1) 0 :: zs.getD (k + 2) 0 :: zs.getD (k + 3) 0 :: zs.getD (k + 4) 0 :: zs.getD (k + 5) 0 :: zs.drop (k + 6) := by
  have e : ∀ i, i < zs.length → zs.drop i = zs.getD i 0 :: zs.drop (i + 1) := fun i hi => by
    rw [List.drop_eq_getElem_cons hi, List.getD_eq_getElem?_getD, List.getElem?_eq_getElem hi]; rfl
  rw [e k (by omega), e (k + 1) (by omega), e (k + 1 + 1) (by omega), e (k + 1 + 1 + 1) (by omega), e (k + 1 + 1 + 1 + 1) (by omega), e (k + 1 + 1 + 1 + 1 + 1) (by omega)]
theorem addr_at {x : Addr} {zs : List Nat} {c : Nat} {W : World} (h : Rd W (some x) zs) (hl : zs.length = 28) (hc : 28 ≤ c) (j : Nat) (h0 : 0 < j) (hj : j + 4 ≤ 28) :
    Calls Try.prog 25 #[.slice (some ⟨x.block, x.off + j, none⟩) (28 - j) (c - j)] W fun e w' => e = .returned (.int .u32 ((65536 * (256 * zs.getD j 0 + zs.getD (j + 1) 0) + (256 * zs.getD (j + 2) 0 + zs.getD (j + 3) 0) : Nat) : Int)) ∧ Below W.heap.size W w' := by
  have at' : ∀ i, 0 < i → i < 28 → W.cell? ⟨x.block, x.off + i, none⟩ = some (.int .u8 ((zs.getD i 0 : Nat) : Int)) := fun i hi hi2 => by
    have := h.at (i - 1) (by omega)
    rwa [show i - 1 + 1 = i by omega] at this
  refine (addrOf_any ⟨x.block, x.off + j, none⟩ (28 - j) (zs.getD j 0) (zs.getD (j + 1) 0) (zs.getD (j + 2) 0) (zs.getD (j + 3) 0) (c - j) W (by omega) (by omega) (h.2.1 _) (h.2.1 _) (h.2.1 _) (h.2.1 _) (at' j h0 (by omega)) ?_ ?_ ?_).mono ?_
  · have := at' (j + 1) (by omega) (by omega); rwa [← Nat.add_assoc] at this
  · have := at' (j + 2) (by omega) (by omega); rwa [← Nat.add_assoc] at this
  · have := at' (j + 3) (by omega) (by omega); rwa [← Nat.add_assoc] at this
  · rintro e w' ⟨rfl, m, rfl⟩
    exact ⟨rfl, below_drewN (Below.refl _ _) m⟩

set_option maxRecDepth 100000 in
set_option maxHeartbeats 2000000 in
theorem readArp_yes (A : Option Addr) (zs : List Nat) (c : Nat) (w : World) (h : Rd w A zs) (hc0 : zs.length ≤ c) (hf : fa zs = true) :
    Calls Try.prog 12 #[.slice A zs.length c] w fun e w' => e = .returned (.tuple #[pv (rap zs), .int .i64 (rae zs)]) ∧ Below w.heap.size w w' := by
  have hl : zs.length = 28 := by unfold fa at hf; simp at hf; exact hf.1
  obtain ⟨x, rfl⟩ := h.some (by omega)
  have H1 := h.below ((Below.refl _ w).alloc (Nat.le_refl _) (Px zp))
  have C := Lib.hid (formedArp_any _ zs c _ H1 hc0)
  have B := Lib.hid ((Below.refl w.heap.size w).alloc (Nat.le_refl _) (Px zp))
  have PB := Lib.hid (pb_box w zp)
  rw [hf, hl] at C
  rw [hl] at hc0 ⊢
  have hc : (28 : Int) ≤ (c : Int) := by omega
  have hz1 : ¬ c = 14 := by omega
  have hz2 : ¬ c = 24 := by omega
  have hz3 : ¬ c = 8 := by omega
  have H := Lib.hid H1
  have HL := Lib.hid hl
  have HF := Lib.hid hf
  have hlt : w.heap.size < (w.alloc (Px zp)).heap.size := by simp
  clear h hf H1 hl
  go_enter Try.func12, Try.ntmps12
  go_wp2_with fail
  refine C.out.mono ?_
  rintro e w1 ⟨rfl, rfl⟩
  clear C
  go_upto_region 3 with fail
  change Code.wp _ _ _ _ (w.alloc (Px zp))
  generalize w.alloc (Px zp) = w1 at *
  have A1 := Lib.hid fun (W : World) (hS : Below w1.heap.size w1 W) => addr_at (H.out.below hS) HL.out hc0 14 (by omega) (by omega)
  have A2 := Lib.hid fun (W : World) (hS : Below w1.heap.size w1 W) => addr_at (H.out.below hS) HL.out hc0 24 (by omega) (by omega)
  have K7 := Lib.hid fun (W : World) (hS : Below w1.heap.size w1 W) => (show W.cell? ⟨x.block, x.off + 7, none⟩ = some (.int .u8 ((zs.getD 7 0 : Nat) : Int)) from (H.out.below hS).at 6 (by rw [HL.out]; omega))
  have R8 := Lib.hid (show Rd w1 (some ⟨x.block, x.off + 8, none⟩) (zs.getD 8 0 :: zs.getD 9 0 :: zs.getD 10 0 :: zs.getD 11 0 :: zs.getD 12 0 :: zs.getD 13 0 :: zs.drop 14) by
    have := rd_off H.out 8 (by omega)
    rwa [drop6 (by rw [HL.out]; omega)] at this)
  have AP := Lib.hid (show apk zs = ⟨((zs.getD 7 0 : Nat) : Int) == 2, _, _, _, _, _, _, _, _, 0, 0⟩ from rfl)
  have m8 := H.out.2.1 8
  obtain ⟨F, hF⟩ : ∃ F, 65536 * (256 * zs.getD 14 0 + zs.getD 15 0) + (256 * zs.getD 16 0 + zs.getD 17 0) = F := ⟨_, rfl⟩
  obtain ⟨T, hT⟩ : ∃ T, 65536 * (256 * zs.getD 24 0 + zs.getD 25 0) + (256 * zs.getD 26 0 + zs.getD 27 0) = T := ⟨_, rfl⟩
  simp only [Nat.reduceAdd, Nat.reduceSub] at A1 A2
  rw [hF] at A1 AP
  rw [hT] at A2 AP
  clear hF hT H HL
  generalize zs.getD 7 0 = k at *
  generalize zs.getD 8 0 = z0 at *
  generalize zs.getD 9 0 = z1 at *
  generalize zs.getD 10 0 = z2 at *
  generalize zs.getD 11 0 = z3 at *
  generalize zs.getD 12 0 = z4 at *
  generalize zs.getD 13 0 = z5 at *
  refine wp_region_below_end (by simp) [fx (.slice (some x) 28 c), fx (.pointer (some ⟨x.block, x.off + 7, none⟩)), fx (.int .u8 (k : Int)), fx (.bool ((k : Int) == 2)), fx (.slice (some x) 28 c), fx (.slice (some ⟨x.block, x.off + 14, none⟩) 14 (c - 14)), fx (.int .u32 (F : Int)), fx (.slice (some x) 28 c), fx (.slice (some ⟨x.block, x.off + 24, none⟩) 4 (c - 24)), fx (.int .u32 (T : Int)), fx (.agg #[.bool ((k : Int) == 2), .int .u32 (F : Int), .int .u32 (T : Int), .int .u8 0, .int .u8 0, .int .u8 0, .int .u8 0, .int .u8 0, .int .u8 0, .int .i64 0, .int .i64 0]), Nb w1.heap.size]
    (by kernel_rfl) (by kernel_rfl) (by kernel_rfl) (by kernel_rfl) ?_ ?_ ?_
  · simp only [List.mem_cons, List.not_mem_nil, or_false]
    rintro φ (rfl | rfl | rfl | rfl | rfl | rfl | rfl | rfl | rfl | rfl | rfl | rfl)
    all_goals first | exact stable_fx _ | exact stable_nb _
  · refine OgSteps.cons ?_ (OgSteps.cons ?_ (OgSteps.cons ?_ (OgSteps.cons ?_ (OgSteps.cons ?_ (OgSteps.cons ?_ (OgSteps.cons ?_ (OgSteps.cons ?_ (OgSteps.cons ?_ (OgSteps.cons ?_ (OgSteps.cons ?_ (OgSteps.cons ?_ (OgSteps.nil))))))))))))
    · refine OgStep.pure ?_ ?_
      · rfl
      intro u W hS hp
      refine ⟨.slice (some x) 28 c, ?_, rfl⟩
      simp only [ogMk, Act.put, List.setIfInBounds_toArray, List.set_cons_zero, List.set_cons_succ, Nat.zero_add, Nat.reduceAdd]
      simp [execOp, Act.eval, go_sem]
    · refine OgStep.pure ?_ ?_
      · rfl
      intro u W hS hp
      have h0 : u 0 = .slice (some x) 28 c := hp ⟨0, .data⟩ (by simp) rfl
      refine ⟨.pointer (some ⟨x.block, x.off + 7, none⟩), ?_, rfl⟩
      simp only [ogMk, Act.put, List.setIfInBounds_toArray, List.set_cons_zero, List.set_cons_succ, Nat.zero_add, Nat.reduceAdd]
      simp [execOp, Act.eval, go_sem, h0]
    · refine OgStep.pure ?_ ?_
      · rfl
      intro u W hS hp
      have h1 : u 1 = .pointer (some ⟨x.block, x.off + 7, none⟩) := hp ⟨1, .data⟩ (by simp) rfl
      have R := K7.out W hS
      refine ⟨.int .u8 (k : Int), ?_, rfl⟩
      simp only [ogMk, Act.put, List.setIfInBounds_toArray, List.set_cons_zero, List.set_cons_succ, Nat.zero_add, Nat.reduceAdd]
      simp [execOp, Act.eval, go_sem, h1, R]
    · refine OgStep.pure ?_ ?_
      · rfl
      intro u W hS hp
      have h2 : u 2 = .int .u8 (k : Int) := hp ⟨2, .data⟩ (by simp) rfl
      refine ⟨.bool ((k : Int) == 2), ?_, rfl⟩
      simp only [ogMk, Act.put, List.setIfInBounds_toArray, List.set_cons_zero, List.set_cons_succ, Nat.zero_add, Nat.reduceAdd]
      simp [execOp, Act.eval, go_sem, h2]
    · refine OgStep.pure ?_ ?_
      · rfl
      intro u W hS hp
      refine ⟨.slice (some x) 28 c, ?_, rfl⟩
      simp only [ogMk, Act.put, List.setIfInBounds_toArray, List.set_cons_zero, List.set_cons_succ, Nat.zero_add, Nat.reduceAdd]
      simp [execOp, Act.eval, go_sem]
    · refine OgStep.pure ?_ ?_
      · rfl
      intro u W hS hp
      have h4 : u 4 = .slice (some x) 28 c := hp ⟨4, .data⟩ (by simp) rfl
      refine ⟨.slice (some ⟨x.block, x.off + 14, none⟩) 14 (c - 14), ?_, rfl⟩
      simp only [ogMk, Act.put, List.setIfInBounds_toArray, List.set_cons_zero, List.set_cons_succ, Nat.zero_add, Nat.reduceAdd]
      simp [execOp, Act.eval, go_sem, h4, hz1, hc]
    · refine OgStep.calls ?_ ?_
      · rfl
      intro u W hS hp
      have h5 : u 5 = .slice (some ⟨x.block, x.off + 14, none⟩) 14 (c - 14) := hp ⟨5, .data⟩ (by simp) rfl
      refine ⟨25, #[.slice (some ⟨x.block, x.off + 14, none⟩) 14 (c - 14)], ?_, calls_fy (A1.out W hS) rfl⟩
      simp only [ogMk, Act.put, List.setIfInBounds_toArray, List.set_cons_zero, List.set_cons_succ, Nat.zero_add, Nat.reduceAdd]
      simp [execOp, Act.eval, go_sem, h5]
    · refine OgStep.pure ?_ ?_
      · rfl
      intro u W hS hp
      refine ⟨.slice (some x) 28 c, ?_, rfl⟩
      simp only [ogMk, Act.put, List.setIfInBounds_toArray, List.set_cons_zero, List.set_cons_succ, Nat.zero_add, Nat.reduceAdd]
      simp [execOp, Act.eval, go_sem]
    · refine OgStep.pure ?_ ?_
      · rfl
      intro u W hS hp
      have h7 : u 7 = .slice (some x) 28 c := hp ⟨7, .data⟩ (by simp) rfl
      refine ⟨.slice (some ⟨x.block, x.off + 24, none⟩) 4 (c - 24), ?_, rfl⟩
      simp only [ogMk, Act.put, List.setIfInBounds_toArray, List.set_cons_zero, List.set_cons_succ, Nat.zero_add, Nat.reduceAdd]
      simp [execOp, Act.eval, go_sem, h7, hz2, hc]
    · refine OgStep.calls ?_ ?_
      · rfl
      intro u W hS hp
      have h8 : u 8 = .slice (some ⟨x.block, x.off + 24, none⟩) 4 (c - 24) := hp ⟨8, .data⟩ (by simp) rfl
      refine ⟨25, #[.slice (some ⟨x.block, x.off + 24, none⟩) 4 (c - 24)], ?_, calls_fy (A2.out W hS) rfl⟩
      simp only [ogMk, Act.put, List.setIfInBounds_toArray, List.set_cons_zero, List.set_cons_succ, Nat.zero_add, Nat.reduceAdd]
      simp [execOp, Act.eval, go_sem, h8]
    · refine OgStep.pure ?_ ?_
      · rfl
      intro u W hS hp
      have h3 : u 3 = .bool ((k : Int) == 2) := hp ⟨3, .data⟩ (by simp) rfl
      have h6 : u 6 = .int .u32 (F : Int) := hp ⟨6, .data⟩ (by simp) rfl
      have h9 : u 9 = .int .u32 (T : Int) := hp ⟨9, .data⟩ (by simp) rfl
      refine ⟨.agg #[.bool ((k : Int) == 2), .int .u32 (F : Int), .int .u32 (T : Int), .int .u8 0, .int .u8 0, .int .u8 0, .int .u8 0, .int .u8 0, .int .u8 0, .int .i64 0, .int .i64 0], ?_, rfl⟩
      simp only [ogMk, Act.put, List.setIfInBounds_toArray, List.set_cons_zero, List.set_cons_succ, Nat.zero_add, Nat.reduceAdd]
      simp [execOp, Act.eval, go_sem, h3, h6, h9]
    · refine OgStep.made ?_ ?_
      · rfl
      intro u W hS hp
      refine ⟨.pointer (some ⟨W.heap.size, 0, none⟩), _, ?_, (Below.refl _ W).alloc (Nat.le_refl _) _, show Nb w1.heap.size _ (W.alloc (Px zp)) from ⟨W.heap.size, rfl, hS.size, by simp, pb_box W zp⟩⟩
      simp only [ogMk, Act.put, List.setIfInBounds_toArray, List.set_cons_zero, List.set_cons_succ, Nat.zero_add, Nat.reduceAdd]
      simp [execOp, Act.eval, go_sem, Px, zp]
  · intro u W hS hF
    have hF' := hF
    have e0 : u 0 = .slice (some x) 28 c := hF 0 (by decide)
    have e1 : u 1 = .pointer (some ⟨x.block, x.off + 7, none⟩) := hF 1 (by decide)
    have e2 : u 2 = .int .u8 (k : Int) := hF 2 (by decide)
    have e3 : u 3 = .bool ((k : Int) == 2) := hF 3 (by decide)
    have e4 : u 4 = .slice (some x) 28 c := hF 4 (by decide)
    have e5 : u 5 = .slice (some ⟨x.block, x.off + 14, none⟩) 14 (c - 14) := hF 5 (by decide)
    have e6 : u 6 = .int .u32 (F : Int) := hF 6 (by decide)
    have e7 : u 7 = .slice (some x) 28 c := hF 7 (by decide)
    have e8 : u 8 = .slice (some ⟨x.block, x.off + 24, none⟩) 4 (c - 24) := hF 8 (by decide)
    have e9 : u 9 = .int .u32 (T : Int) := hF 9 (by decide)
    have e10 : u 10 = .agg #[.bool ((k : Int) == 2), .int .u32 (F : Int), .int .u32 (T : Int), .int .u8 0, .int .u8 0, .int .u8 0, .int .u8 0, .int .u8 0, .int .u8 0, .int .i64 0, .int .i64 0] := hF 10 (by decide)
    simp only [ogMk, Act.put, List.setIfInBounds_toArray, List.set_cons_zero, List.set_cons_succ, Nat.zero_add, Nat.reduceAdd]
    rw [e0, e1, e2, e3, e4, e5, e6, e7, e8, e9, e10]
    clear e0 e1 e2 e3 e4 e5 e6 e7 e8 e9 e10 hF
    obtain ⟨b, e11, hb1, hb2, hb3⟩ : Nb w1.heap.size (u 11) W := hF' 11 (by decide)
    rw [e11]
    clear hF' e11
    have BW := Lib.hid hS
    have HB3 := Lib.hid hb3
    clear hS hb3
    go_wp2_with (refine at_store27 _ _ _ zp ⟨(k : Int) == 2, F, T, 0, 0, 0, 0, 0, 0, 0, 0⟩ HB3.out rfl rfl rfl rfl ?_; intro w3 P3 B3)
    have W3 := Lib.hid (BW.out.trans (B3.out _ hb1))
    clear A1 A2 K7 BW B3 HB3
    go_upto_region 4 with fail
    go_still_tail 4, (by kernel_rfl)
    change wpList _ _ _ _ _ w3.drew
    have DR : Below w3.heap.size w3 w3.drew := (Below.refl _ w3).drew
    have P4 := Lib.hid (P3.out.keep DR P3.out.lt)
    have R4 := Lib.hid ((R8.out.below W3.out).below DR)
    have PR0 := Lib.hid ((PB.out.keep W3.out hlt).keep DR (by have := P3.out.lt; omega))
    have BL0 := Lib.hid ((B.out.trans (W3.out.mono (by omega))).trans (DR.mono (by have := P3.out.lt; omega)))
    clear DR P3 R8 W3 PB B
    generalize w3.drew = w4 at *
    go_upto_region 5 with (refine at_copyMac (.tmp 21) (.tmp 23) b ⟨(k : Int) == 2, F, T, 0, 0, 0, 0, 0, 0, 0, 0⟩ ⟨x.block, x.off + 8, none⟩ 20 (c - 8) z0 z1 z2 z3 z4 z5 _ P4.out R4.out (by omega) rfl rfl rfl rfl ?_; intro w5 P5 B5)
    have PR := Lib.hid (PR0.out.keep (B5.out _ (Nat.le_refl _)) (by omega))
    have BL := Lib.hid (BL0.out.trans (B5.out _ (by omega)))
    have c0 := P5.out.1.c0
    have c3 := P5.out.1.c3
    have c4 := P5.out.1.c4
    have c5 := P5.out.1.c5
    have c6 := P5.out.1.c6
    have c7 := P5.out.1.c7
    have c8 := P5.out.1.c8
    dsimp only at c0 c3 c4 c5 c6 c7 c8
    have RA := Lib.hid (show rae zs = if ((k : Int) == 2) = true ∧ (eq6 z0 z1 z2 z3 z4 z5 0 0 0 0 0 0 || ((z0 : Int) % 2 == 1)) = true then 1 else 0 by unfold rae; rw [if_pos HF.out, AP.out]; rfl)
    have hlb : b < w5.heap.size := P5.out.lt
    clear PR0 BL0 P4 R4 B5
    by_cases hk : k = 2
    · have E1 : ((k : Int) == 2) = true := by rw [hk]; rfl
      rw [E1] at c0 P5
      have EK := Lib.hid E1
      obtain ⟨e1, he1⟩ : ∃ e1, eq6 (z0 : Int) z1 z2 z3 z4 z5 0 0 0 0 0 0 = e1 := ⟨_, rfl⟩
      obtain ⟨e2, he2⟩ : ∃ e2, ((z0 : Int) % 2 == 1) = e2 := ⟨_, rfl⟩
      have HN := Lib.hid (none_any (z0 : Int) z1 z2 z3 z4 z5 w5)
      rw [he1] at HN
      have HE1 := Lib.hid he1
      have HE2 := Lib.hid he2
      clear E1 hk he1 he2
      go_wp2_with fail
      refine HN.out.mono ?_
      rintro e w6 ⟨rfl, hb⟩
      have P6 := Lib.hid (P5.out.keep hb hlb)
      have PR6 := Lib.hid (PR.out.keep hb (by omega))
      have BL6 := Lib.hid (BL.out.trans (hb.mono (by omega)))
      clear hb c0 c3 c4 c5 c6 c7 c8 P5 PR BL HN
      cases e1
      · have HG := Lib.hid (group_any (z0 : Int) z1 z2 z3 z4 z5 w6 (by omega) (by omega))
        rw [HE2.out] at HG
        have c3 := P6.out.1.c3
        have c4 := P6.out.1.c4
        have c5 := P6.out.1.c5
        have c6 := P6.out.1.c6
        have c7 := P6.out.1.c7
        have c8 := P6.out.1.c8
        dsimp only at c3 c4 c5 c6 c7 c8
        have hl6 : b < w6.heap.size := P6.out.lt
        go_wp2_with fail
        refine HG.out.mono ?_
        rintro e w7 ⟨rfl, hb⟩
        have P7 := Lib.hid (P6.out.keep hb hl6)
        have PR7 := Lib.hid (PR6.out.keep hb (by omega))
        have BL7 := Lib.hid (BL6.out.trans (hb.mono (by omega)))
        clear hb c3 c4 c5 c6 c7 c8 P6 PR6 BL6 HG
        cases e2
        · go_upto_region 7 with fail
          go_wp2_with (first | (refine at_load27 _ b _ P7.out.1 rfl rfl rfl ?_) | (refine at_store27 _ _ _ zp ⟨true, F, T, z0, z1, z2, z3, z4, z5, 0, 0⟩ PR7.out rfl rfl rfl rfl ?_; intro w9 P9 B9))
          refine bodyPost_ret (results_cell2 rfl _ _ _ _ rfl (load27 P9.out.1)) rfl ?_
          have hr : rae zs = 0 := by rw [RA.out, EK.out, HE1.out, HE2.out]; simp
          exact ⟨by rw [show rap zs = apk zs by unfold rap; rw [if_pos hr], hr, AP.out, EK.out]; rfl, BL7.out.trans (B9.out _ (Nat.le_refl _))⟩
        · go_upto_region 6 with fail
          go_wp2_with (refine at_store27 _ _ _ zp zp PR7.out rfl rfl rfl rfl ?_; intro w9 P9 B9)
          refine bodyPost_ret (results_cell2 rfl _ _ _ _ rfl (load27 P9.out.1)) rfl ?_
          have hr : rae zs = 1 := by rw [RA.out, EK.out, HE1.out, HE2.out]; simp
          exact ⟨by rw [show rap zs = zp by unfold rap; rw [if_neg (by rw [hr]; decide)], hr]; rfl, BL7.out.trans (B9.out _ (Nat.le_refl _))⟩
      · go_upto_region 6 with fail
        go_wp2_with (refine at_store27 _ _ _ zp zp PR6.out rfl rfl rfl rfl ?_; intro w9 P9 B9)
        refine bodyPost_ret (results_cell2 rfl _ _ _ _ rfl (load27 P9.out.1)) rfl ?_
        have hr : rae zs = 1 := by rw [RA.out, EK.out, HE1.out, HE2.out]; simp
        exact ⟨by rw [show rap zs = zp by unfold rap; rw [if_neg (by rw [hr]; decide)], hr]; rfl, BL6.out.trans (B9.out _ (Nat.le_refl _))⟩
    · have E1 : ((k : Int) == 2) = false := by simp; omega
      rw [E1] at c0 P5
      have EK := Lib.hid E1
      clear E1 hk
      go_upto_region 7 with fail
      clear c0 c3 c4 c5 c6 c7 c8
      go_wp2_with (first | (refine at_load27 _ b _ P5.out.1 rfl rfl rfl ?_) | (refine at_store27 _ _ _ zp ⟨false, F, T, z0, z1, z2, z3, z4, z5, 0, 0⟩ PR.out rfl rfl rfl rfl ?_; intro w9 P9 B9))
      refine bodyPost_ret (results_cell2 rfl _ _ _ _ rfl (load27 P9.out.1)) rfl ?_
      have hr : rae zs = 0 := by rw [RA.out, EK.out]; simp
      exact ⟨by rw [show rap zs = apk zs by unfold rap; rw [if_pos hr], hr, AP.out, EK.out]; rfl, BL.out.trans (B9.out _ (Nat.le_refl _))⟩
end Go.Proofs.Ytgdbkjiifliobaa
