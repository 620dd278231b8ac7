/-
  The contracts of the statements' own awake and Some. Conditions: the deeds lie in memory.
-/
import Derived.Test.YtcnhagcmklgpkaaSem
set_option linter.unusedSimpArgs false
set_option linter.unusedVariables false
namespace Go.Proofs.Ytcnhagcmklgpkaa
open Go.RowKit

def s3 : Sg := ⟨1, 0, 0, 0, 0, 0, 0, 3⟩
def s2 : Sg := ⟨1, 0, 0, 0, 0, 0, 0, 2⟩
theorem aw1 : putR [] 5 s3 = [⟨5, [s3]⟩] ∧ putC [] 5 s3 = 0 := by
  have e : putC [] 5 s3 = 0 := by decide
  exact ⟨by unfold putR; rw [e]; rfl, e⟩
theorem aw2 : putR [⟨5, [s3]⟩] 5 s2 = [] ∧ putC [⟨5, [s3]⟩] 5 s2 = 3 := by
  have e : putC [⟨5, [s3]⟩] 5 s2 = 3 := by decide
  exact ⟨by unfold putR; rw [e]; rfl, e⟩
theorem aw3 : sg [⟨5, [s3]⟩] 5 = [s3] := rfl
theorem aw4 : rightB [⟨5, [s3]⟩] = true := by decide

set_option maxRecDepth 100000 in
set_option maxHeartbeats 4000000 in
theorem awake_any (w : World) : Calls Try.prog 9 #[] w fun e w' => e = .returned (.bool true) ∧ Below w.heap.size w w' := by
  have H1 := Lib.hid (put_any 5 s3 none [] 0 w (Ks.nil _ _) (by simp) ⟨by simp, fun x hx => by simp at hx⟩ (by omega) (by omega))
  rw [aw1.1, aw1.2] at H1
  have hbd : Bd [⟨5, [s3]⟩] := ⟨by simp, fun x hx => by simp at hx; subst hx; simp⟩
  have H2 := Lib.hid fun A cap W (h : Ks W A [⟨5, [s3]⟩]) (hc : [(⟨5, [s3]⟩ : Kp)].length ≤ cap) => put_any 5 s2 A [⟨5, [s3]⟩] cap W h hc hbd (by omega) (by omega)
  rw [aw2.1, aw2.2] at H2
  have H3 := Lib.hid fun A cap W (h : Ks W A [⟨5, [s3]⟩]) (hc : [(⟨5, [s3]⟩ : Kp)].length ≤ cap) => last_any 5 A [⟨5, [s3]⟩] cap W h hc (by omega) (by omega)
  rw [aw3] at H3
  have H4 := Lib.hid fun A cap W (h : Ks W A [⟨5, [s3]⟩]) (hc : [(⟨5, [s3]⟩ : Kp)].length ≤ cap) => of_any 5 A [⟨5, [s3]⟩] cap W h hc (fun x hx => Nat.le_trans (hbd.2 x hx) (by omega)) (by omega) (by omega)
  rw [aw3] at H4
  have H5 := Lib.hid fun A cap W (h : Ks W A [⟨5, [s3]⟩]) (hc : [(⟨5, [s3]⟩ : Kp)].length ≤ cap) => right_any A [⟨5, [s3]⟩] cap W h hc
  rw [aw4] at H5
  rw [show tk [s3] = 3 from rfl, show any [s3] = true from rfl] at H3
  simp only [sv, s3, s2, List.length_singleton, List.length_nil] at H1 H2 H3 H4 H5
  go_enter Try.func9, Try.ntmps9
  go_wp2_with fail
  refine H1.out.mono ?_
  rintro e w1 ⟨v1, rfl, hb, A1, c1, rfl, hc1, _, hK⟩
  have R1 := Lib.hid hK
  have B1 := Lib.hid hb
  have hc1' : 1 ≤ c1 := hc1
  clear hK hb hc1
  simp only [List.length_singleton]
  go_wp2_with fail
  refine (H2.out _ _ _ R1.out hc1').mono ?_
  rintro e w2 ⟨v2, rfl, hb, -⟩
  have R2 := Lib.hid (R1.out.below hb)
  have B2 := Lib.hid (B1.out.trans (hb.mono B1.out.size))
  clear hb
  go_wp2_with fail
  refine (H3.out _ _ _ R2.out hc1').mono ?_
  rintro e w3 ⟨rfl, n3, rfl⟩
  go_wp2_with fail
  refine (H4.out _ _ _ (R2.out.drewN n3) hc1').mono ?_
  rintro e w4 ⟨v4, rfl, hb, A4, c4, rfl, -, -, -⟩
  have R4 := Lib.hid ((R2.out.drewN n3).below hb)
  have B4 := Lib.hid ((bdrewN B2.out n3).trans (hb.mono (bdrewN B2.out n3).size))
  clear hb
  simp only [List.length_singleton]
  go_wp2_with fail
  refine (H5.out _ _ _ R4.out hc1').mono ?_
  rintro e w5 ⟨rfl, hb⟩
  have B5 := Lib.hid (B4.out.trans (hb.mono B4.out.size))
  clear hb
  go_wp2_with fail
  go_ret
  exact ⟨rfl, B5.out⟩

def SomPost (w : World) (p : List Kp × Int) (e : Ending) (w' : World) : Prop := ∃ v, e = .returned (.tuple #[v, .int .i64 p.2]) ∧ Below w.heap.size w w' ∧ kF p.1 v w'
/-- What a call of Put gives back. -/
def oF (ys : List Kp) (q : Int) : Value → World → Prop := fun x W => ∃ v, x = .tuple #[v, .int .i64 q] ∧ kF ys v W
theorem stable_oF (ys : List Kp) (q : Int) : Stable (oF ys q) := fun _ _ _ ⟨v, h1, h2⟩ hb => ⟨v, h1, stable_kF _ _ _ _ h2 hb⟩
theorem calls_oF {f : FuncId} {args : Array Value} {W : World} {ys : List Kp} {q : Int} {Φ : List (Value → World → Prop)} {i : Nat} (h : Calls Try.prog f args W (OutPost W ys q)) (hi : fAt Φ i = oF ys q) : Calls Try.prog f args W fun e w' => ∃ v, e = .returned v ∧ Below W.heap.size W w' ∧ fAt Φ i v w' := by
  rw [hi]
  exact h.mono fun e w' ⟨v, h1, h2, h3⟩ => ⟨_, h1, h2, v, rfl, h3⟩

set_option maxRecDepth 100000 in
set_option maxHeartbeats 4000000 in
theorem some_any (A : Option Addr) (xs : List Ac) (cap : Nat) (w : World) (h : Ra w A xs) (hcap : xs.length ≤ cap) :
    Calls Try.prog 17 #[.slice A xs.length cap] w (SomPost w (SM xs (min xs.length 120))) := by
  obtain ⟨L, hL⟩ : ∃ L : Nat, min (xs.length : Int) 120 = L := ⟨min xs.length 120, by omega⟩
  have hLn : min xs.length 120 = L := by omega
  rw [hLn]
  have hL60 : L ≤ 120 := by omega
  have hLz : L ≤ xs.length := by omega
  have hLc : (L : Int) ≤ cap := by omega
  have hz := h.1
  have R := Lib.hid h
  have HLz := Lib.hid hLz
  have HG := Lib.hid (fun k (hk : k ≤ L) => SM_good xs k (by omega))
  clear h hLn
  go_enter Try.func17, Try.ntmps17
  go_wp2_with fail
  go_loopw [4, 5, 16] (fun v n i wr => ∃ (k : Nat) (ys : List Kp) (N : Int) (A1 : Option Addr) (c1 : Nat), i = .int .i64 k ∧ k ≤ L ∧ n = .int .i64 N ∧ v = .slice A1 ys.length c1 ∧ ys.length ≤ c1 ∧ 0 ≤ N ∧ N ≤ 1000 ∧ Hid (c1 ≤ maxLen ∧ (ys, N) = SM xs k ∧ Ks wr A1 ys ∧ Below w.heap.size w wr)) (fun _ _ i _ => L - (intOf i).toNat)
  case atStart => exact ⟨0, [], 0, none, 0, rfl, by omega, rfl, rfl, by simp, by omega, by omega, Lib.hid ⟨by unfold maxLen; omega, rfl, Ks.nil _ _, Below.refl _ _⟩⟩
  case round =>
    obtain ⟨k, ys, N, A1, c1, rfl, hk, rfl, rfl, hyc, hn0, hn1, HH⟩ := hrel
    by_cases hlt : k < L
    · obtain ⟨a, ha⟩ : ∃ a, xs[k]? = some a := ⟨_, List.getElem?_eq_getElem (by omega)⟩
      obtain ⟨hok, x, rfl, hc⟩ := (R.out.below HH.out.2.2.2).2 k a ha
      have hc28 : ∀ j v, (ac a)[j]? = some v → wr.cell? ((x.add (k * 4)).add j) = some v := fun j v hv => by rw [Go.Deep.add_add]; exact hc j v hv
      have hg := HG.out k hk
      have hg1 := HG.out (k + 1) (by omega)
      rw [← HH.out.2.1] at hg
      have hst := hg.step a
      have HS := Lib.hid (show SM xs (k + 1) = (ins ys (near a.ad) (sgt a (N + a.la % 8)), N + a.la % 8) by
        rw [SM_succ ha, ← HH.out.2.1]
        exact Prod.ext hst.2 rfl)
      have hNk : N + a.la % 8 ≤ 1000 := by
        have := hg1.n1
        rw [HS.out] at this
        dsimp only at this
        omega
      have hcan := hg.can (near a.ad) a (show N ≤ N + a.la % 8 by have := hok.2.2.2; omega)
      have hpz := put_zero hcan
      have HSG := Lib.hid fun W => sight_any a (N + a.la % 8) W hok
      have HNR := Lib.hid fun W => near_any a.ad W hok.1.1 hok.1.2
      have HPT := Lib.hid fun W (hW : Ks W A1 ys) => put_any (near a.ad) (sgt a (N + a.la % 8)) A1 ys c1 W hW hyc hg.v.bd (near_in _).1 (near_in _).2
      dsimp only at hcan hpz
      rw [hcan, hpz.1] at HPT
      have HY := Lib.hid (ab_box wr a)
      have HA1 : Below wr.heap.size wr (wr.alloc (Ax a)) := (Below.refl _ wr).alloc (Nat.le_refl _) _
      have HB1 := Lib.hid (bthen HH.out.2.2.2 HA1 HH.out.2.2.2.size)
      have HR1 := Lib.hid (HH.out.2.2.1.below HA1)
      obtain ⟨⟨i0, i1⟩, ⟨i2, i3⟩, ⟨i4, i5⟩, ⟨i6, i7⟩⟩ := hok
      generalize ins ys (near a.ad) (sgt a (N + a.la % 8)) = YS at *
      generalize sgt a (N + a.la % 8) = S at *
      generalize near a.ad = X at *
      obtain ⟨q0, q1, q2, q3⟩ := a
      obtain ⟨S0, S1, S2, S3, S4, S5, S6, S7⟩ := S
      dsimp only at i0 i1 i2 i3 i4 i5 i6 i7 hNk HSG HNR HPT HS
      simp only [Ax] at HY HB1 HR1
      simp only [sv, av] at HSG HPT
      clear ha hc hg hg1 hst hcan hpz HA1
      go_wp2_with (refine at_load28 _ rfl rfl _ _ rfl hc28 ?_)
      obtain ⟨N1, hN1⟩ : ∃ N1, N + q3 % 8 = N1 := ⟨_, rfl⟩
      rw [hN1] at HSG HS hNk ⊢
      have hN10 : 0 ≤ N1 := by omega
      clear hN1
      generalize wr.alloc (.cells #[.int .u8 q0, .int .u8 q1, .int .u8 q2, .int .u8 q3] 28) = W1 at *
      generalize wr.heap.size = NN at *
      obtain ⟨YL, hYL⟩ : ∃ YL, ys.length = YL := ⟨_, rfl⟩
      rw [hYL] at HPT ⊢
      refine wp_region_below [fx (.slice A1 YL c1), fx (.pointer (some ⟨NN, 0, none⟩)), fx (.int .u8 q0), fx (.int .u32 X), fx (.agg #[.int .u8 q0, .int .u8 q1, .int .u8 q2, .int .u8 q3]), fx (.int .i64 N1), fx (.agg #[.int .i64 S0, .int .u8 S1, .int .u8 S2, .int .u8 S3, .int .u8 S4, .int .u8 S5, .int .u8 S6, .int .i64 S7]), oF YS 0, oF YS 0, kF YS, fx (.int .i64 0), kF YS, fx (.int .i64 0)]
        (by kernel_rfl) (by kernel_rfl) (by kernel_rfl) ?_ ?_ ?_
      · simp only [List.mem_cons, List.not_mem_nil, or_false]
        rintro φ (rfl | rfl | rfl | rfl | rfl | rfl | rfl | rfl | rfl | rfl | rfl | rfl | rfl)
        all_goals first | exact stable_fx _ | exact stable_fr _ _ | exact stable_kF _ | exact stable_oF _ _
      · refine OgSteps.cons ?_ (OgSteps.cons ?_ (OgSteps.cons ?_ (OgSteps.cons ?_ (OgSteps.cons ?_ (OgSteps.cons ?_ (OgSteps.cons ?_ (OgSteps.cons ?_ (OgSteps.cons ?_ (OgSteps.cons ?_ (OgSteps.cons ?_ (OgSteps.cons ?_ (OgSteps.cons ?_ (OgSteps.nil)))))))))))))
        · refine OgStep.pure ?_ ?_
          · rfl
          intro u W hS hp
          refine ⟨.slice A1 YL c1, ?_, rfl⟩
          simp only [ogMk, Act.put, List.setIfInBounds_toArray, List.set_cons_zero, List.set_cons_succ, Nat.zero_add, Nat.reduceAdd]
          simp [execOp, Act.eval, go_sem]
        · refine OgStep.pure ?_ ?_
          · rfl
          intro u W hS hp
          refine ⟨.pointer (some ⟨NN, 0, none⟩), ?_, rfl⟩
          simp only [ogMk, Act.put, List.setIfInBounds_toArray, List.set_cons_zero, List.set_cons_succ, Nat.zero_add, Nat.reduceAdd]
          simp [execOp, Act.eval, go_sem]
        · refine OgStep.pure ?_ ?_
          · rfl
          intro u W hS hp
          have h1 : u 1 = .pointer (some ⟨NN, 0, none⟩) := hp ⟨1, .data⟩ (by simp) rfl
          have X := HY.out.below hS
          have R := X.c0
          refine ⟨.int .u8 q0, ?_, rfl⟩
          simp only [ogMk, Act.put, List.setIfInBounds_toArray, List.set_cons_zero, List.set_cons_succ, Nat.zero_add, Nat.reduceAdd]
          simp [execOp, Act.eval, go_sem, h1, R]
        · refine OgStep.calls ?_ ?_
          · rfl
          intro u W hS hp
          have h2 : u 2 = .int .u8 q0 := hp ⟨2, .data⟩ (by simp) rfl
          refine ⟨21, #[.int .u8 q0], ?_, calls_fx' (HNR.out W) rfl⟩
          simp only [ogMk, Act.put, List.setIfInBounds_toArray, List.set_cons_zero, List.set_cons_succ, Nat.zero_add, Nat.reduceAdd]
          simp [execOp, Act.eval, go_sem, h2]
        · refine OgStep.pure ?_ ?_
          · rfl
          intro u W hS hp
          have X := HY.out.below hS
          have R0 := X.c0
          have R1 := X.c1
          have R2 := X.c2
          have R3 := X.c3
          refine ⟨.agg #[.int .u8 q0, .int .u8 q1, .int .u8 q2, .int .u8 q3], ?_, rfl⟩
          simp only [ogMk, Act.put, List.setIfInBounds_toArray, List.set_cons_zero, List.set_cons_succ, Nat.zero_add, Nat.reduceAdd]
          simp [execOp, Act.eval, go_sem, R0, R1, R2, R3]
        · refine OgStep.pure ?_ ?_
          · rfl
          intro u W hS hp
          refine ⟨.int .i64 N1, ?_, rfl⟩
          simp only [ogMk, Act.put, List.setIfInBounds_toArray, List.set_cons_zero, List.set_cons_succ, Nat.zero_add, Nat.reduceAdd]
          simp [execOp, Act.eval, go_sem]
        · refine OgStep.calls ?_ ?_
          · rfl
          intro u W hS hp
          have h4 : u 4 = .agg #[.int .u8 q0, .int .u8 q1, .int .u8 q2, .int .u8 q3] := hp ⟨4, .data⟩ (by simp) rfl
          have h5 : u 5 = .int .i64 N1 := hp ⟨5, .data⟩ (by simp) rfl
          refine ⟨10, #[.agg #[.int .u8 q0, .int .u8 q1, .int .u8 q2, .int .u8 q3], .int .i64 N1], ?_, calls_fx (HSG.out W) rfl⟩
          simp only [ogMk, Act.put, List.setIfInBounds_toArray, List.set_cons_zero, List.set_cons_succ, Nat.zero_add, Nat.reduceAdd]
          simp [execOp, Act.eval, go_sem, h4, h5]
        · refine OgStep.calls ?_ ?_
          · rfl
          intro u W hS hp
          have h0 : u 0 = .slice A1 YL c1 := hp ⟨0, .data⟩ (by simp) rfl
          have h3 : u 3 = .int .u32 X := hp ⟨3, .data⟩ (by simp) rfl
          have h6 : u 6 = .agg #[.int .i64 S0, .int .u8 S1, .int .u8 S2, .int .u8 S3, .int .u8 S4, .int .u8 S5, .int .u8 S6, .int .i64 S7] := hp ⟨6, .data⟩ (by simp) rfl
          refine ⟨11, #[.slice A1 YL c1, .int .u32 X, .agg #[.int .i64 S0, .int .u8 S1, .int .u8 S2, .int .u8 S3, .int .u8 S4, .int .u8 S5, .int .u8 S6, .int .i64 S7]], ?_, calls_oF (HPT.out W (HR1.out.below hS)) rfl⟩
          simp only [ogMk, Act.put, List.setIfInBounds_toArray, List.set_cons_zero, List.set_cons_succ, Nat.zero_add, Nat.reduceAdd]
          simp [execOp, Act.eval, go_sem, h0, h3, h6]
        · refine OgStep.pure ?_ ?_
          · rfl
          intro u W hS hp
          have h7 : oF YS 0 (u 7) W := hp ⟨7, .data⟩ (by simp) rfl
          refine ⟨u 7, ?_, h7⟩
          simp only [ogMk, Act.put, List.setIfInBounds_toArray, List.set_cons_zero, List.set_cons_succ, Nat.zero_add, Nat.reduceAdd]
          simp [execOp, Act.eval, go_sem]
        · refine OgStep.pure ?_ ?_
          · rfl
          intro u W hS hp
          obtain ⟨v8, h8, h8k⟩ : oF YS 0 (u 8) W := hp ⟨8, .data⟩ (by simp) rfl
          refine ⟨v8, ?_, h8k⟩
          simp only [ogMk, Act.put, List.setIfInBounds_toArray, List.set_cons_zero, List.set_cons_succ, Nat.zero_add, Nat.reduceAdd]
          rw [h8]
          simp [execOp, Act.eval, go_sem]
        · refine OgStep.pure ?_ ?_
          · rfl
          intro u W hS hp
          obtain ⟨v8, h8, h8k⟩ : oF YS 0 (u 8) W := hp ⟨8, .data⟩ (by simp) rfl
          refine ⟨.int .i64 0, ?_, rfl⟩
          simp only [ogMk, Act.put, List.setIfInBounds_toArray, List.set_cons_zero, List.set_cons_succ, Nat.zero_add, Nat.reduceAdd]
          rw [h8]
          simp [execOp, Act.eval, go_sem]
        · refine OgStep.pure ?_ ?_
          · rfl
          intro u W hS hp
          have h9 : kF YS (u 9) W := hp ⟨9, .data⟩ (by simp) rfl
          refine ⟨u 9, ?_, h9⟩
          simp only [ogMk, Act.put, List.setIfInBounds_toArray, List.set_cons_zero, List.set_cons_succ, Nat.zero_add, Nat.reduceAdd]
          simp [execOp, Act.eval, go_sem]
        · refine OgStep.pure ?_ ?_
          · rfl
          intro u W hS hp
          have h10 : u 10 = .int .i64 0 := hp ⟨10, .data⟩ (by simp) rfl
          refine ⟨.int .i64 0, ?_, rfl⟩
          simp only [ogMk, Act.put, List.setIfInBounds_toArray, List.set_cons_zero, List.set_cons_succ, Nat.zero_add, Nat.reduceAdd]
          simp [execOp, Act.eval, go_sem, h10]
      · intro u W hS hF'
        have hF := hF'
        have e0 : u 0 = .slice A1 YL c1 := hF 0 (by decide)
        have e1 : u 1 = .pointer (some ⟨NN, 0, none⟩) := hF 1 (by decide)
        have e2 : u 2 = .int .u8 q0 := hF 2 (by decide)
        have e3 : u 3 = .int .u32 X := hF 3 (by decide)
        have e4 : u 4 = .agg #[.int .u8 q0, .int .u8 q1, .int .u8 q2, .int .u8 q3] := hF 4 (by decide)
        have e5 : u 5 = .int .i64 N1 := hF 5 (by decide)
        have e6 : u 6 = .agg #[.int .i64 S0, .int .u8 S1, .int .u8 S2, .int .u8 S3, .int .u8 S4, .int .u8 S5, .int .u8 S6, .int .i64 S7] := hF 6 (by decide)
        have e10 : u 10 = .int .i64 0 := hF 10 (by decide)
        have e12 : u 12 = .int .i64 0 := hF 12 (by decide)
        simp only [ogMk, Act.put, List.setIfInBounds_toArray, List.set_cons_zero, List.set_cons_succ, Nat.zero_add, Nat.reduceAdd]
        rw [e0, e1, e2, e3, e4, e5, e6, e10, e12]
        clear e0 e1 e2 e3 e4 e5 e6 e10 e12 hF
        obtain ⟨A2, c2, e11, hc2, hm2, hK2⟩ : kF YS (u 11) W := hF' 11 (by decide)
        rw [e11]
        have HW := Lib.hid (show c2 ≤ maxLen ∧ (YS, N1) = SM xs (k + 1) ∧ Ks W A2 YS ∧ Below w.heap.size w W from ⟨hm2, HS.out.symm, hK2, bthen HB1.out hS HB1.out.size⟩)
        clear hF' e11 hm2 hK2 hS HSG HNR HPT HY HB1 HR1 HS
        go_wp2_with fail
        go_roundw
        case rel => exact ⟨k + 1, YS, N1, A2, c2, by go_num, by omega, rfl, rfl, hc2, hN10, hNk, HW⟩
        case measure => simp [intOf]; omega
    · obtain rfl : k = L := by omega
      go_wp2_with fail
      go_ret2
      obtain ⟨h1, h2, h3, h4⟩ := HH.out
      rw [← h2]
      exact ⟨_, rfl, h4, A1, c1, rfl, hyc, h1, h3⟩
end Go.Proofs.Ytcnhagcmklgpkaa
