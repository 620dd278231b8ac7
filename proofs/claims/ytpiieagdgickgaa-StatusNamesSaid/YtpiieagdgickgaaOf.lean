/-
  The contract of status.Of: how an address is. Conditions: the row and the holder lie in memory; up to 1000000 sightings; the need is at most 2^40.
-/
import Derived.Test.YtpiieagdgickgaaRog
import Derived.Deep.QuietTactic
set_option linter.unusedSimpArgs false
set_option linter.unusedVariables false
namespace Go.Proofs.Ytpiieagdgickgaa
open Go.RowKit

/-- Whether two of the stations are apart. -/
def apS (S : List Mc) : Bool := match S with
  | [] => false
  | x :: _ => anyO S x
/-- Whether the last one is old. -/
def oldB (c : Cf) (ss : List Sg) (now : Int) : Bool := match ss.getLast? with
  | some s => !wi now s.t c.b
  | none => false
/-- How an address is. -/
def stO (c : Cf) (h : Option Mc) (ss : List Sg) (now : Int) : Int :=
  if apS (sts (fr c ss now)) then 5 else match h with
  | none => if 0 < (fr c ss now).length then 4 else 0
  | some m => if !noB m && anyO (sts (fr c ss now)) m then 4 else if c.c ≤ (fr c ss now).length then 2 else if oldB c ss now then 3 else 1
/-- A holder's pointer. -/
def hp : Option (Nat × Mc) → Value
  | none => .pointer none
  | some (b, _) => .pointer (some ⟨b, 0, none⟩)
def HP (W : World) : Option (Nat × Mc) → Prop
  | none => True
  | some (b, m) => Hm W b m
theorem HP.below {W W' : World} {h : Option (Nat × Mc)} (k : HP W h) (hb : Below W.heap.size W W') : HP W' h := by
  cases h with
  | none => trivial
  | some p => exact Hm.below k hb
/-- A row of the call's own reads so; and where it lies. -/
theorem own_at {α : Type} {E : El α} {w : World} {base : Nat} {e : TypeId} {v : Value} {n : Nat} {xs : List α} (h : w.ownsRow base e E.N v n (E.cs xs)) (hn : xs.length ≤ 140737488355328) :
    ∃ A cap, v = .slice A xs.length cap ∧ xs.length ≤ cap ∧ cap ≤ maxLen ∧ Rw E w A xs ∧ (∀ y, A = some y → ∃ g, y = ⟨g, 0, none⟩) := by
  obtain ⟨A, cap, rfl, h1, h2, _, h3, _⟩ := own_rw h hn
  refine ⟨A, cap, rfl, h1, h2, h3, fun y hy => ?_⟩
  rcases h.2 with ⟨e1, h0⟩ | ⟨g, cap', cur, e1, _⟩
  · injection e1 with e1
    rw [hy] at e1
    cases e1
  · injection e1 with e1
    rw [hy] at e1
    injection e1 with e1
    exact ⟨g, e1⟩

set_option maxRecDepth 100000 in
set_option maxHeartbeats 8000000 in
theorem of_nil (x : Cf) (A : Option Addr) (xs : List Sg) (cap : Nat) (now : Int) (w : World) (h : Rw eS w A xs) (hc : xs.length ≤ cap) (hx : xs.length ≤ 1000000) (hcd : x.c ≤ 1099511627776) :
    Calls Try.prog 13 #[cfv x, .pointer none, .slice A xs.length cap, .int .i64 now] w fun e w' => e = .returned (.int .i64 (stO x none xs now)) ∧ Below w.heap.size w w' := by
  have hfl := fr_le x xs now
  have HFR := Lib.hid fun W (hW : Rw eS W A xs) => freshOf_any x now A xs cap W hW hc hx hcd
  have HST := Lib.hid fun B c W (hW : Rw eS W B (fr x xs now)) (hcc : (fr x xs now).length ≤ c) => stationsOf_any B (fr x xs now) c W hW hcc (by omega)
  have HSL := sts_le (fr x xs now)
  have HSP := Lib.hid (show stO x none xs now = _ from by unfold stO; rfl)
  have HB0 := Lib.hid (show Below w.heap.size w (w.alloc (Cfx x)) from (Below.refl _ w).alloc (Nat.le_refl _) _)
  have HC0 := Lib.hid (cm_box w x)
  have R := Lib.hid (h.below HB0.out)
  skip
  have HAN := Lib.hid fun m' B ys c W (hW : Rw eM W B ys) (hcc : ys.length ≤ c) => anyOther_any m' B ys c W hW hcc
  skip
  have RN := Lib.hid fun A1 B n c k d W => rogue_nil A1 B n c k d W
  skip
  obtain ⟨F, hF⟩ : ∃ F, fr x xs now = F := ⟨_, rfl⟩
  rw [hF] at HFR HST HSL HSP hfl
  obtain ⟨S, hS⟩ : ∃ S, sts F = S := ⟨_, rfl⟩
  rw [hS] at HST HSP HSL
  obtain ⟨L, hL⟩ : ∃ L, xs.length = L := ⟨_, rfl⟩
  have HL := Lib.hid hL
  rw [hL] at hc hx hfl HFR ⊢
  obtain ⟨xa, xb, xc, xd, xe, xf, xg, xh, xi⟩ := x
  skip
  dsimp only at hcd HSP
  simp only [cfv, Cfx] at HB0 HC0 R HFR  ⊢
  clear h hL hF hS 
  go_enter Try.func13, Try.ntmps13
  go_upto_region 1 with fail
  change (Code.region _ _ _).wp _ _ _ (w.alloc (.cells #[.int .i64 xa, .int .i64 xb, .int .i64 xc, .int .i64 xd, .int .i64 xe, .int .i64 xf, .int .i64 xg, .int .i64 xh, .int .i64 xi] 27))
  generalize w.alloc (.cells #[.int .i64 xa, .int .i64 xb, .int .i64 xc, .int .i64 xd, .int .i64 xe, .int .i64 xf, .int .i64 xg, .int .i64 xh, .int .i64 xi] 27) = W0 at *
  have k0 := HC0.out.c0
  have k1 := HC0.out.c1
  have k2 := HC0.out.c2
  have k3 := HC0.out.c3
  have k4 := HC0.out.c4
  have k5 := HC0.out.c5
  have k6 := HC0.out.c6
  have k7 := HC0.out.c7
  have k8 := HC0.out.c8
  dsimp only at k0 k1 k2 k3 k4 k5 k6 k7 k8
  go_wp2_with fail
  refine (HFR.out _ R.out).mono ?_
  rintro e w2 ⟨v2, rfl, ho, hb⟩
  obtain ⟨A1, c1, rfl, hc1, _, h1, -⟩ := own_at (E := eS) ho (by omega)
  have B2 := Lib.hid (bthen HB0.out hb HB0.out.size)
  have C2 := Lib.hid (HC0.out.below hb)
  have X2 := Lib.hid (R.out.below hb)
  skip
  have F2 := Lib.hid h1
  clear ho hb h1 k0 k1 k2 k3 k4 k5 k6 k7 k8
  go_wp2_with fail
  refine (HST.out _ _ _ F2.out hc1).mono ?_
  rintro e w3 ⟨v3, rfl, ho, hb⟩
  obtain ⟨A2, c2, rfl, hc2, _, h1, hg⟩ := own_at (E := eM) ho (by omega)
  have B3' := Lib.hid (bthen B2.out hb B2.out.size)
  have C3' := Lib.hid (C2.out.below hb)
  have X3' := Lib.hid (X2.out.below hb)
  skip
  have R3' := Lib.hid h1
  obtain ⟨n1, hn1⟩ : ∃ n1, F.length = n1 := ⟨_, rfl⟩
  rw [hn1] at hc1 hfl HSL HSP ⊢
  clear ho hb hn1 HFR HST
  rcases S with _ | ⟨z, S'⟩
  · have HAP := Lib.hid (show apS [] = false from rfl)
    have B3 := B3'
    have C3 := C3'
    have X3 := X3'
    skip
    have R3 := R3'
    simp only [List.length_nil] at *
    clear h1 hg
    go_wp2_with fail
    refine (RN.out _ _ _ _ _ _ _).mono ?_
    rintro e w4 ⟨rfl, rfl⟩
    by_cases h0 : 0 < n1
    · have h0' : decide (0 < n1) = true := decide_eq_true h0
      have HR := Lib.hid (HSP.out.trans (by rw [HAP.out, if_neg (by simp), if_pos h0]))
      rw [h0']
      go_wp2_with fail
      go_ret
      exact ⟨ret_int HR.out.symm, B3.out⟩
    · have h0' : decide (0 < n1) = false := decide_eq_false h0
      have HR := Lib.hid (HSP.out.trans (by rw [HAP.out, if_neg (by simp), if_neg h0]))
      rw [h0']
      go_wp2_with fail
      go_ret
      exact ⟨ret_int HR.out.symm, B3.out⟩
  · obtain ⟨y, rfl⟩ := rw_some h1 (by simp)
    obtain ⟨g, rfl⟩ := hg _ rfl
    have hat := h1.at (q := 0) (x := z) rfl
    rw [show ((⟨g, 0, none⟩ : Addr).add (0 * eM.N)) = ⟨g, 0, none⟩ from rfl] at hat
    have g0 : w3.cell? ⟨g, 0, none⟩ = some (.int .u8 z.b0) := hat 0 _ rfl
    have g1 : w3.cell? ⟨g, 1, none⟩ = some (.int .u8 z.b1) := by have := hat 1 _ rfl; rwa [Addr.add_mid] at this
    have g2 : w3.cell? ⟨g, 2, none⟩ = some (.int .u8 z.b2) := by have := hat 2 _ rfl; rwa [Addr.add_mid] at this
    have g3 : w3.cell? ⟨g, 3, none⟩ = some (.int .u8 z.b3) := by have := hat 3 _ rfl; rwa [Addr.add_mid] at this
    have g4 : w3.cell? ⟨g, 4, none⟩ = some (.int .u8 z.b4) := by have := hat 4 _ rfl; rwa [Addr.add_mid] at this
    have g5 : w3.cell? ⟨g, 5, none⟩ = some (.int .u8 z.b5) := by have := hat 5 _ rfl; rwa [Addr.add_mid] at this
    have hAP : apS (z :: S') = anyO (z :: S') z := rfl
    have hl1 : 0 < (z :: S').length := by simp
    have HC := Lib.hid fun W (hW : Rw eM W (some ⟨g, 0, none⟩) (z :: S')) => HAN.out z (some ⟨g, 0, none⟩) (z :: S') c2 W hW hc2
    obtain ⟨S, hSS⟩ : ∃ S, z :: S' = S := ⟨_, rfl⟩
    rw [hSS] at HC hAP hl1 HSP R3' hc2 HSL ⊢
    obtain ⟨q, hqq⟩ : ∃ q, anyO S z = q := ⟨_, rfl⟩
    rw [hqq] at HC hAP
    have HAP := Lib.hid hAP
    obtain ⟨a0, a1, a2, a3, a4, a5⟩ := z
    dsimp only at g0 g1 g2 g3 g4 g5
    simp only [mv] at HC
    obtain ⟨K, hK⟩ : ∃ K, S.length = K := ⟨_, rfl⟩
    have HK := Lib.hid hK
    rw [hK] at hl1 HC hc2 HSL ⊢
    have hl1' : (0 : Int) < K := by omega
    clear hat h1 hg hAP hSS hqq hK
    go_wp2_with fail
    refine (HC.out _ R3'.out).mono ?_
    rintro e w4 ⟨rfl, hb⟩
    have B3 := Lib.hid (bthen B3'.out hb B3'.out.size)
    have C3 := Lib.hid (C3'.out.below hb)
    have X3 := Lib.hid (X3'.out.below hb)
    skip
    have R3 := Lib.hid (R3'.out.below hb)
    clear hb g0 g1 g2 g3 g4 g5
    cases q
    · go_wp2_with fail
      skip
      refine (RN.out _ _ _ _ _ _ _).mono ?_
      rintro e w4 ⟨rfl, rfl⟩
      by_cases h0 : 0 < n1
      · have h0' : decide (0 < n1) = true := decide_eq_true h0
        have HR := Lib.hid (HSP.out.trans (by rw [HAP.out, if_neg (by simp), if_pos h0]))
        rw [h0']
        go_wp2_with fail
        go_ret
        exact ⟨ret_int HR.out.symm, B3.out⟩
      · have h0' : decide (0 < n1) = false := decide_eq_false h0
        have HR := Lib.hid (HSP.out.trans (by rw [HAP.out, if_neg (by simp), if_neg h0]))
        rw [h0']
        go_wp2_with fail
        go_ret
        exact ⟨ret_int HR.out.symm, B3.out⟩
    · have HR := Lib.hid (HSP.out.trans (by rw [HAP.out, if_pos rfl]))
      go_wp2_with fail
      go_ret
      exact ⟨ret_int HR.out.symm, B3.out⟩
set_option maxRecDepth 100000 in
set_option maxHeartbeats 8000000 in
theorem of_some (x : Cf) (b : Nat) (m : Mc) (A : Option Addr) (xs : List Sg) (cap : Nat) (now : Int) (w : World) (hm : Hm w b m) (h : Rw eS w A xs) (hc : xs.length ≤ cap) (hx : xs.length ≤ 1000000) (hcd : x.c ≤ 1099511627776) :
    Calls Try.prog 13 #[cfv x, .pointer (some ⟨b, 0, none⟩), .slice A xs.length cap, .int .i64 now] w fun e w' => e = .returned (.int .i64 (stO x (some m) xs now)) ∧ Below w.heap.size w w' := by
  have hfl := fr_le x xs now
  have HFR := Lib.hid fun W (hW : Rw eS W A xs) => freshOf_any x now A xs cap W hW hc hx hcd
  have HST := Lib.hid fun B c W (hW : Rw eS W B (fr x xs now)) (hcc : (fr x xs now).length ≤ c) => stationsOf_any B (fr x xs now) c W hW hcc (by omega)
  have HSL := sts_le (fr x xs now)
  have HSP := Lib.hid (show stO x (some m) xs now = _ from by unfold stO; rfl)
  have HB0 := Lib.hid (show Below w.heap.size w (w.alloc (Cfx x)) from (Below.refl _ w).alloc (Nat.le_refl _) _)
  have HC0 := Lib.hid (cm_box w x)
  have R := Lib.hid (h.below HB0.out)
  have HM0 := Lib.hid (hm.below HB0.out)
  have HAN := Lib.hid fun m' B ys c W (hW : Rw eM W B ys) (hcc : ys.length ≤ c) => anyOther_any m' B ys c W hW hcc
  have RN := Lib.hid fun A1 n c d B W (hW : Hm W b m) => (show Calls Try.prog 20 #[.pointer (some ⟨b, 0, none⟩), .slice A1 n c, .slice B 0 d] W fun e w' => e = .returned (.bool (!noB m && anyO [] m)) ∧ Below W.heap.size W w' from rogue_some b m A1 B n c d [] W hW (Rw.nil _ _) (Nat.zero_le _))
  have RS := Lib.hid fun A1 n c d B ys W => rogue_some b m A1 B n c d ys W
  have HW := Lib.hid fun u W => within_any now u x.b W
  obtain ⟨F, hF⟩ : ∃ F, fr x xs now = F := ⟨_, rfl⟩
  rw [hF] at HFR HST HSL HSP hfl
  obtain ⟨S, hS⟩ : ∃ S, sts F = S := ⟨_, rfl⟩
  rw [hS] at HST HSP HSL
  obtain ⟨L, hL⟩ : ∃ L, xs.length = L := ⟨_, rfl⟩
  have HL := Lib.hid hL
  rw [hL] at hc hx hfl HFR ⊢
  obtain ⟨xa, xb, xc, xd, xe, xf, xg, xh, xi⟩ := x
  dsimp only at HW
  dsimp only at hcd HSP
  simp only [cfv, Cfx] at HB0 HC0 R HFR HM0 ⊢
  clear h hL hF hS hm
  go_enter Try.func13, Try.ntmps13
  go_upto_region 1 with fail
  change (Code.region _ _ _).wp _ _ _ (w.alloc (.cells #[.int .i64 xa, .int .i64 xb, .int .i64 xc, .int .i64 xd, .int .i64 xe, .int .i64 xf, .int .i64 xg, .int .i64 xh, .int .i64 xi] 27))
  generalize w.alloc (.cells #[.int .i64 xa, .int .i64 xb, .int .i64 xc, .int .i64 xd, .int .i64 xe, .int .i64 xf, .int .i64 xg, .int .i64 xh, .int .i64 xi] 27) = W0 at *
  have k0 := HC0.out.c0
  have k1 := HC0.out.c1
  have k2 := HC0.out.c2
  have k3 := HC0.out.c3
  have k4 := HC0.out.c4
  have k5 := HC0.out.c5
  have k6 := HC0.out.c6
  have k7 := HC0.out.c7
  have k8 := HC0.out.c8
  dsimp only at k0 k1 k2 k3 k4 k5 k6 k7 k8
  go_wp2_with fail
  refine (HFR.out _ R.out).mono ?_
  rintro e w2 ⟨v2, rfl, ho, hb⟩
  obtain ⟨A1, c1, rfl, hc1, _, h1, -⟩ := own_at (E := eS) ho (by omega)
  have B2 := Lib.hid (bthen HB0.out hb HB0.out.size)
  have C2 := Lib.hid (HC0.out.below hb)
  have X2 := Lib.hid (R.out.below hb)
  have M2 := Lib.hid (HM0.out.below hb)
  have F2 := Lib.hid h1
  clear ho hb h1 k0 k1 k2 k3 k4 k5 k6 k7 k8
  go_wp2_with fail
  refine (HST.out _ _ _ F2.out hc1).mono ?_
  rintro e w3 ⟨v3, rfl, ho, hb⟩
  obtain ⟨A2, c2, rfl, hc2, _, h1, hg⟩ := own_at (E := eM) ho (by omega)
  have B3' := Lib.hid (bthen B2.out hb B2.out.size)
  have C3' := Lib.hid (C2.out.below hb)
  have X3' := Lib.hid (X2.out.below hb)
  have M3' := Lib.hid (M2.out.below hb)
  have R3' := Lib.hid h1
  obtain ⟨n1, hn1⟩ : ∃ n1, F.length = n1 := ⟨_, rfl⟩
  rw [hn1] at hc1 hfl HSL HSP ⊢
  clear ho hb hn1 HFR HST
  rcases S with _ | ⟨z, S'⟩
  · have HAP := Lib.hid (show apS [] = false from rfl)
    have B3 := B3'
    have C3 := C3'
    have X3 := X3'
    have HM := M3'
    have R3 := R3'
    simp only [List.length_nil] at *
    clear h1 hg
    go_wp2_with fail
    refine (RN.out _ _ _ _ _ _ HM.out).mono ?_
    rintro e w4 ⟨rfl, hb⟩
    have B4 := Lib.hid (bthen B3.out hb B3.out.size)
    have C4 := Lib.hid (C3.out.below hb)
    have X4 := Lib.hid (X3.out.below hb)
    have k2 := C4.out.c2
    have k1 := C4.out.c1
    dsimp only at k1 k2
    clear hb
    cases hq : (!noB m && anyO [] m)
    · have HQ := Lib.hid hq
      clear hq
      by_cases hn : xc ≤ n1
      · have hn' : (n1 : Int) ≥ xc := hn
        have HR := Lib.hid (HSP.out.trans (by rw [HAP.out, if_neg (by simp), HQ.out, if_neg (by simp), if_pos hn]))
        go_wp2_with fail
        go_ret
        exact ⟨ret_int HR.out.symm, B4.out⟩
      · have hn' : ¬ (n1 : Int) ≥ xc := hn
        have HR := Lib.hid (HSP.out.trans (by rw [HAP.out, if_neg (by simp), HQ.out, if_neg (by simp), if_neg hn]))
        rcases L with _ | J
        · have HOl := Lib.hid (show oldB ⟨xa, xb, xc, xd, xe, xf, xg, xh, xi⟩ xs now = false by
            have := List.eq_nil_of_length_eq_zero HL.out
            rw [this]; rfl)
          go_upto_region 11 with fail
          go_quiet (fail)
          go_wp2_with fail
          go_ret
          exact ⟨ret_int (by rw [HR.out, HOl.out]; rfl), bdrewN B4.out _⟩
        · obtain ⟨s, hs⟩ : ∃ s, xs[J]? = some s := ⟨_, List.getElem?_eq_getElem (by rw [HL.out]; omega)⟩
          obtain ⟨y, rfl⟩ := rw_some X4.out (by rw [HL.out]; omega)
          have hat := X4.out.at hs
          have j7 : w4.cell? ⟨(y.add (J * 8)).block, (y.add (J * 8)).off + 7, none⟩ = some (.int .i64 s.t) := hat 7 _ rfl
          have hj : IntKind.i64.wrap (J : Int) = (J : Int) := i64_nat (by omega)
          have HWW := Lib.hid (HW.out s.t)
          have HOl := Lib.hid (show oldB ⟨xa, xb, xc, xd, xe, xf, xg, xh, xi⟩ xs now = !wi now s.t xb by
            unfold oldB
            rw [List.getLast?_eq_getElem?, HL.out, show J + 1 - 1 = J by omega, hs])
          clear hs hat
          cases hw : wi now s.t xb
          · have HR2 := Lib.hid (HR.out.trans (by rw [HOl.out, hw, if_pos (by simp)]))
            rw [hw] at HWW
            clear hw
            go_upto_region 11 with fail
            go_quiet ((go_at_call 21; exact Calls.quiet_of_same ((HWW.out _).mono fun e w' h => ⟨h.1, h.2.symm⟩)))
            go_wp2_with fail
            go_ret
            exact ⟨ret_int HR2.out.symm, bdrewN B4.out _⟩
          · have HR2 := Lib.hid (HR.out.trans (by rw [HOl.out, hw, if_neg (by simp)]))
            rw [hw] at HWW
            clear hw
            go_upto_region 11 with fail
            go_quiet ((go_at_call 21; exact Calls.quiet_of_same ((HWW.out _).mono fun e w' h => ⟨h.1, h.2.symm⟩)))
            go_wp2_with fail
            go_ret
            exact ⟨ret_int HR2.out.symm, bdrewN B4.out _⟩
    · have HQ := Lib.hid hq
      have HR := Lib.hid (HSP.out.trans (by rw [HAP.out, if_neg (by simp), HQ.out, if_pos rfl]))
      go_wp2_with fail
      go_ret
      exact ⟨ret_int HR.out.symm, B4.out⟩
  · obtain ⟨y, rfl⟩ := rw_some h1 (by simp)
    obtain ⟨g, rfl⟩ := hg _ rfl
    have hat := h1.at (q := 0) (x := z) rfl
    rw [show ((⟨g, 0, none⟩ : Addr).add (0 * eM.N)) = ⟨g, 0, none⟩ from rfl] at hat
    have g0 : w3.cell? ⟨g, 0, none⟩ = some (.int .u8 z.b0) := hat 0 _ rfl
    have g1 : w3.cell? ⟨g, 1, none⟩ = some (.int .u8 z.b1) := by have := hat 1 _ rfl; rwa [Addr.add_mid] at this
    have g2 : w3.cell? ⟨g, 2, none⟩ = some (.int .u8 z.b2) := by have := hat 2 _ rfl; rwa [Addr.add_mid] at this
    have g3 : w3.cell? ⟨g, 3, none⟩ = some (.int .u8 z.b3) := by have := hat 3 _ rfl; rwa [Addr.add_mid] at this
    have g4 : w3.cell? ⟨g, 4, none⟩ = some (.int .u8 z.b4) := by have := hat 4 _ rfl; rwa [Addr.add_mid] at this
    have g5 : w3.cell? ⟨g, 5, none⟩ = some (.int .u8 z.b5) := by have := hat 5 _ rfl; rwa [Addr.add_mid] at this
    have hAP : apS (z :: S') = anyO (z :: S') z := rfl
    have hl1 : 0 < (z :: S').length := by simp
    have HC := Lib.hid fun W (hW : Rw eM W (some ⟨g, 0, none⟩) (z :: S')) => HAN.out z (some ⟨g, 0, none⟩) (z :: S') c2 W hW hc2
    obtain ⟨S, hSS⟩ : ∃ S, z :: S' = S := ⟨_, rfl⟩
    rw [hSS] at HC hAP hl1 HSP R3' hc2 HSL ⊢
    obtain ⟨q, hqq⟩ : ∃ q, anyO S z = q := ⟨_, rfl⟩
    rw [hqq] at HC hAP
    have HAP := Lib.hid hAP
    obtain ⟨a0, a1, a2, a3, a4, a5⟩ := z
    dsimp only at g0 g1 g2 g3 g4 g5
    simp only [mv] at HC
    obtain ⟨K, hK⟩ : ∃ K, S.length = K := ⟨_, rfl⟩
    have HK := Lib.hid hK
    rw [hK] at hl1 HC hc2 HSL ⊢
    have hl1' : (0 : Int) < K := by omega
    clear hat h1 hg hAP hSS hqq hK
    go_wp2_with fail
    refine (HC.out _ R3'.out).mono ?_
    rintro e w4 ⟨rfl, hb⟩
    have B3 := Lib.hid (bthen B3'.out hb B3'.out.size)
    have C3 := Lib.hid (C3'.out.below hb)
    have X3 := Lib.hid (X3'.out.below hb)
    have HM := Lib.hid (M3'.out.below hb)
    have R3 := Lib.hid (R3'.out.below hb)
    clear hb g0 g1 g2 g3 g4 g5
    cases q
    · go_wp2_with fail
      rw [← HK.out]
      refine (RS.out _ _ _ _ _ S _ HM.out R3.out (show S.length ≤ c2 by rw [HK.out]; exact hc2)).mono ?_
      rintro e w4 ⟨rfl, hb⟩
      have B4 := Lib.hid (bthen B3.out hb B3.out.size)
      have C4 := Lib.hid (C3.out.below hb)
      have X4 := Lib.hid (X3.out.below hb)
      have k2 := C4.out.c2
      have k1 := C4.out.c1
      dsimp only at k1 k2
      clear hb
      cases hq : (!noB m && anyO S m)
      · have HQ := Lib.hid hq
        clear hq
        by_cases hn : xc ≤ n1
        · have hn' : (n1 : Int) ≥ xc := hn
          have HR := Lib.hid (HSP.out.trans (by rw [HAP.out, if_neg (by simp), HQ.out, if_neg (by simp), if_pos hn]))
          go_wp2_with fail
          go_ret
          exact ⟨ret_int HR.out.symm, B4.out⟩
        · have hn' : ¬ (n1 : Int) ≥ xc := hn
          have HR := Lib.hid (HSP.out.trans (by rw [HAP.out, if_neg (by simp), HQ.out, if_neg (by simp), if_neg hn]))
          rcases L with _ | J
          · exfalso; omega
          · obtain ⟨s, hs⟩ : ∃ s, xs[J]? = some s := ⟨_, List.getElem?_eq_getElem (by rw [HL.out]; omega)⟩
            obtain ⟨y, rfl⟩ := rw_some X4.out (by rw [HL.out]; omega)
            have hat := X4.out.at hs
            have j7 : w4.cell? ⟨(y.add (J * 8)).block, (y.add (J * 8)).off + 7, none⟩ = some (.int .i64 s.t) := hat 7 _ rfl
            have hj : IntKind.i64.wrap (J : Int) = (J : Int) := i64_nat (by omega)
            have HWW := Lib.hid (HW.out s.t)
            have HOl := Lib.hid (show oldB ⟨xa, xb, xc, xd, xe, xf, xg, xh, xi⟩ xs now = !wi now s.t xb by
              unfold oldB
              rw [List.getLast?_eq_getElem?, HL.out, show J + 1 - 1 = J by omega, hs])
            clear hs hat
            cases hw : wi now s.t xb
            · have HR2 := Lib.hid (HR.out.trans (by rw [HOl.out, hw, if_pos (by simp)]))
              rw [hw] at HWW
              clear hw
              go_upto_region 11 with fail
              go_quiet ((go_at_call 21; exact Calls.quiet_of_same ((HWW.out _).mono fun e w' h => ⟨h.1, h.2.symm⟩)))
              go_wp2_with fail
              go_ret
              exact ⟨ret_int HR2.out.symm, bdrewN B4.out _⟩
            · have HR2 := Lib.hid (HR.out.trans (by rw [HOl.out, hw, if_neg (by simp)]))
              rw [hw] at HWW
              clear hw
              go_upto_region 11 with fail
              go_quiet ((go_at_call 21; exact Calls.quiet_of_same ((HWW.out _).mono fun e w' h => ⟨h.1, h.2.symm⟩)))
              go_wp2_with fail
              go_ret
              exact ⟨ret_int HR2.out.symm, bdrewN B4.out _⟩
      · have HQ := Lib.hid hq
        have HR := Lib.hid (HSP.out.trans (by rw [HAP.out, if_neg (by simp), HQ.out, if_pos rfl]))
        go_wp2_with fail
        go_ret
        exact ⟨ret_int HR.out.symm, B4.out⟩
    · have HR := Lib.hid (HSP.out.trans (by rw [HAP.out, if_pos rfl]))
      go_wp2_with fail
      go_ret
      exact ⟨ret_int HR.out.symm, B3.out⟩
theorem of_any (x : Cf) (h : Option (Nat × Mc)) (A : Option Addr) (xs : List Sg) (cap : Nat) (now : Int) (w : World) (hm : HP w h) (hr : Rw eS w A xs) (hc : xs.length ≤ cap) (hx : xs.length ≤ 1000000) (hcd : x.c ≤ 1099511627776) :
    Calls Try.prog 13 #[cfv x, hp h, .slice A xs.length cap, .int .i64 now] w fun e w' => e = .returned (.int .i64 (stO x (h.map (·.2)) xs now)) ∧ Below w.heap.size w w' := by
  cases h with
  | none => exact of_nil x A xs cap now w hr hc hx hcd
  | some p => exact of_some x p.1 p.2 A xs cap now w hm hr hc hx hcd
end Go.Proofs.Ytpiieagdgickgaa
