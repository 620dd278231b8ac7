/-
  The contract of the statements' own of: how an address is. Conditions: the row and the holder lie in memory; up to 1000000 sightings; the need is at most 2^40.
-/
import Derived.Test.YtpiieagdgickgaaOf
import Derived.Deep.CutRange
set_option linter.unusedSimpArgs false
set_option linter.unusedVariables false
namespace Go.Proofs.Ytpiieagdgickgaa
open Go.RowKit

theorem pre_yes {xs : List Sg} {H k : Nat} {s : Sg} (h : xs[k]? = some s) (hk : H ≤ k) : (xs.take (k + 1)).drop H = (xs.take k).drop H ++ [s] := by
  have hl : k < xs.length := (List.getElem?_eq_some_iff.1 h).1
  rw [List.take_add_one, h, List.drop_append_of_le_length (by rw [List.length_take]; omega)]
  rfl
theorem pre_no {xs : List Sg} {H k : Nat} (hk : k ≤ H) : (xs.take k).drop H = [] := List.drop_eq_nil_of_le (by rw [List.length_take]; omega)
theorem fq_snoc (c : Cf) (now : Int) (ss : List Sg) (s : Sg) : fq c now (ss ++ [s]) = if wi now s.t c.a then fq c now ss ++ [s] else fq c now ss := by
  unfold fq
  rw [List.filter_append]
  cases hn : wi now s.t c.a <;> simp [hn]
theorem sts_snoc (ss : List Sg) (s : Sg) : sts (ss ++ [s]) = if noB s.m then sts ss else sts ss ++ [s.m] := by
  unfold sts
  rw [List.map_append, List.filter_append]
  cases hn : noB s.m <;> simp [hn]
theorem apS_eq (S : List Mc) : apS S = anyO S (S.headD zm) := by cases S <;> rfl
/-- A variable with a station. -/
structure Mb (W : World) (b : Nat) (m : Mc) : Prop where
  lt : b < W.heap.size
  c0 : W.cell? ⟨b, 0, none⟩ = some (.int .u8 m.b0)
  c1 : W.cell? ⟨b, 1, none⟩ = some (.int .u8 m.b1)
  c2 : W.cell? ⟨b, 2, none⟩ = some (.int .u8 m.b2)
  c3 : W.cell? ⟨b, 3, none⟩ = some (.int .u8 m.b3)
  c4 : W.cell? ⟨b, 4, none⟩ = some (.int .u8 m.b4)
  c5 : W.cell? ⟨b, 5, none⟩ = some (.int .u8 m.b5)
theorem mb_box (w : World) (m : Mc) : Mb (w.alloc (Mx m)) w.heap.size m := ⟨by simp, by simp [Mx], by simp [Mx], by simp [Mx], by simp [Mx], by simp [Mx], by simp [Mx]⟩
theorem Mb.keep {W W' : World} {b B : Nat} {s : Mc} (h : Mb W b s) (hb : Below B W W') (hB : b < B) (hs : W.heap.size ≤ W'.heap.size) : Mb W' b s :=
  ⟨Nat.lt_of_lt_of_le h.lt hs, by rw [hb.cell (p := ⟨b, 0, none⟩) hB]; exact h.c0, by rw [hb.cell (p := ⟨b, 1, none⟩) hB]; exact h.c1, by rw [hb.cell (p := ⟨b, 2, none⟩) hB]; exact h.c2, by rw [hb.cell (p := ⟨b, 3, none⟩) hB]; exact h.c3, by rw [hb.cell (p := ⟨b, 4, none⟩) hB]; exact h.c4, by rw [hb.cell (p := ⟨b, 5, none⟩) hB]; exact h.c5⟩
theorem Mb.below {W W' : World} {b : Nat} {s : Mc} (h : Mb W b s) (hb : Below W.heap.size W W') : Mb W' b s := h.keep hb h.lt hb.size
theorem mb_row {W : World} {g : Nat} {z : Mc} {S : List Mc} (h : Rw eM W (some ⟨g, 0, none⟩) (z :: S)) : Mb W g z := by
  have hat := h.at (q := 0) (x := z) rfl
  rw [show ((⟨g, 0, none⟩ : Addr).add (0 * eM.N)) = ⟨g, 0, none⟩ from rfl] at hat
  have h0 : W.cell? ⟨g, 0, none⟩ = some (.int .u8 z.b0) := hat 0 _ rfl
  exact ⟨World.block_lt_of_cell? _ _ h0, h0, by have := hat 1 _ rfl; rwa [Addr.add_mid] at this, by have := hat 2 _ rfl; rwa [Addr.add_mid] at this, by have := hat 3 _ rfl; rwa [Addr.add_mid] at this, by have := hat 4 _ rfl; rwa [Addr.add_mid] at this, by have := hat 5 _ rfl; rwa [Addr.add_mid] at this⟩
/-- Whether another one than the holder's is among the stations. -/
def otB (h : Option Mc) (S : List Mc) : Bool := match h with
  | none => false
  | some m => !noB m && anyO S m

set_option maxRecDepth 100000 in
set_option maxHeartbeats 8000000 in
theorem lawOf_nil (x : Cf) (A : Option Addr) (xs : List Sg) (cap : Nat) (now : Int) (w : World) (h : Rw eS w A xs) (hc : xs.length ≤ cap) (hx : xs.length ≤ 1000000) (hcd : x.c ≤ 1099511627776) :
    Calls Try.prog 14 #[cfv x, .pointer none, .slice A xs.length cap, .int .i64 now] w fun e w' => e = .returned (.int .i64 (stO x none xs now)) ∧ Below w.heap.size w w' := by
  obtain ⟨H, hH⟩ : ∃ H, hd x xs.length = H := ⟨_, rfl⟩
  obtain ⟨M, hM⟩ : ∃ M : Nat, max 0 x.c = (M : Int) := ⟨(max 0 x.c).toNat, by omega⟩
  have hM1 : M ≤ 1099511627776 := by omega
  have EM : max 0 x.c = (M : Int) := hM
  have EH : H = xs.length - 1 - M := by rw [← hH]; unfold hd; rw [show max x.c 0 = max 0 x.c by omega, hM]; rfl
  have HFR := Lib.hid (show fr x xs now = fq x now (xs.drop H) by unfold fr; rw [hH])
  have hfl := fr_le x xs now
  have HSL := sts_le (fr x xs now)
  have HSP := Lib.hid (show stO x none xs now = _ from by unfold stO; rfl)
  have HB0 := Lib.hid (show Below w.heap.size w (w.alloc (Cfx x)) from (Below.refl _ w).alloc (Nat.le_refl _) _)
  have HC0 := Lib.hid (cm_box w x)
  have R := Lib.hid (h.below HB0.out)
  skip
  have HW := Lib.hid fun u n W => lawWithin_any now u n W
  have HFS := Lib.hid (fq_snoc x now)
  have hq0 := fun (k : Nat) => fq_le x now ((xs.take k).drop H)
  have HQ0 := Lib.hid hq0
  obtain ⟨L, hL⟩ : ∃ L, xs.length = L := ⟨_, rfl⟩
  have HL := Lib.hid hL
  have HTL := Lib.hid (show xs.take L = xs by rw [← hL, List.take_length])
  rw [hL] at hc hx hfl EH ⊢
  obtain ⟨xa, xb, xc, xd, xe, xf, xg, xh, xi⟩ := x
  dsimp only at hcd HSP EM HFS
  simp only [cfv, Cfx] at HB0 HC0 R  ⊢
  clear h hL hH hM hq0 
  go_enter Try.func14, Try.ntmps14
  go_upto_region 1 with fail
  change (Code.region _ _ _).wp _ _ _ (w.alloc (.cells #[.int .i64 xa, .int .i64 xb, .int .i64 xc, .int .i64 xd, .int .i64 xe, .int .i64 xf, .int .i64 xg, .int .i64 xh, .int .i64 xi] 27))
  generalize w.alloc (.cells #[.int .i64 xa, .int .i64 xb, .int .i64 xc, .int .i64 xd, .int .i64 xe, .int .i64 xf, .int .i64 xg, .int .i64 xh, .int .i64 xi] 27) = W0 at *
  go_wp2_with fail
  go_loopw [9, 10, 19] (fun v n i wr => ∃ k q : Nat, i = .int .i64 k ∧ k ≤ L ∧ n = .int .i64 q ∧ q ≤ k ∧ Hid (q = (fq ⟨xa, xb, xc, xd, xe, xf, xg, xh, xi⟩ now ((xs.take k).drop H)).length ∧ wr.ownsRow W0.heap.size 35 6 v (sts (fq ⟨xa, xb, xc, xd, xe, xf, xg, xh, xi⟩ now ((xs.take k).drop H))).length (eM.cs (sts (fq ⟨xa, xb, xc, xd, xe, xf, xg, xh, xi⟩ now ((xs.take k).drop H)))) ∧ Below W0.heap.size W0 wr)) (fun _ _ i _ => L - (intOf i).toNat)
  case atStart => exact ⟨0, 0, rfl, by omega, rfl, by omega, Lib.hid ⟨by simp [fq], by simpa [fq, sts, El.cs] using World.ownsRow_nil _ _ _ _, Below.refl _ _⟩⟩
  case round =>
    obtain ⟨k, q, rfl, hk, rfl, hqk, HH⟩ := hrel
    by_cases hlt : k < L
    · obtain ⟨s, hs⟩ : ∃ s, xs[k]? = some s := ⟨_, List.getElem?_eq_getElem (by rw [HL.out]; exact hlt)⟩
      have RR := R.out.below HH.out.2.2
      obtain ⟨y, rfl⟩ := rw_some RR (by rw [HL.out]; omega)
      have hat := RR.at hs
      have HBX := Lib.hid (sb_box wr s)
      have HA1 : Below wr.heap.size wr (wr.alloc (Sx s)) := (Below.refl _ wr).alloc (Nat.le_refl _) _
      have HB1 := Lib.hid (bthen HH.out.2.2 HA1 HH.out.2.2.size)
      have HO1 := Lib.hid (own_keep HH.out.2.1 HA1)
      have HC1 := Lib.hid ((HC0.out.below HH.out.2.2).below HA1)
      have HY := Lib.hid (fun (h : H ≤ k) => pre_yes hs h)
      have HNN := Lib.hid (fun (h : k ≤ H) => pre_no (xs := xs) h)
      have HNN1 := Lib.hid (fun (h : k + 1 ≤ H) => pre_no (xs := xs) h)
      have HWs := Lib.hid (HW.out s.t xa)
      have HFSs := Lib.hid (HFS.out ((xs.take k).drop H) s)
      have HSSs := Lib.hid (sts_snoc (fq ⟨xa, xb, xc, xd, xe, xf, xg, xh, xi⟩ now ((xs.take k).drop H)) s)
      obtain ⟨e, he⟩ : ∃ e, wi now s.t xa = e := ⟨_, rfl⟩
      rw [he] at HWs HFSs
      obtain ⟨u, hu⟩ : ∃ u, noB s.m = u := ⟨_, rfl⟩
      rw [hu] at HSSs
      obtain ⟨f, mm, t⟩ := s
      have HRM := Lib.hid fun W => rm_one W mm 35
      obtain ⟨a0, a1, a2, a3, a4, a5⟩ := mm
      have hue : eq6 a0 a1 a2 a3 a4 a5 0 0 0 0 0 0 = u := hu
      have hqq : ∀ W, _ := fun W => run_eq6 a0 a1 a2 a3 a4 a5 0 0 0 0 0 0 9998 W
      rw [hue] at hqq
      simp only [Sx, ml] at HWs HBX HB1 HO1 HRM HC1
      clear hs he hu hue RR HA1
      go_upto_region 6 with (refine at_load48 _ rfl rfl _ _ rfl hat ?_)
      generalize wr.alloc (.cells #[.int .i64 f, .int .u8 a0, .int .u8 a1, .int .u8 a2, .int .u8 a3, .int .u8 a4, .int .u8 a5, .int .i64 t] 48) = W1 at *
      generalize wr.heap.size = N1 at *
      have d0 := HC1.out.c0
      have d2 := HC1.out.c2
      have e7 := HBX.out.c7
      have e1 := HBX.out.c1
      have e2 := HBX.out.c2
      have e3 := HBX.out.c3
      have e4 := HBX.out.c4
      have e5 := HBX.out.c5
      have e6 := HBX.out.c6
      dsimp only at d0 d2 e1 e2 e3 e4 e5 e6 e7
      by_cases hH : H ≤ k
      · have hle : (L : Int) - k ≤ M + 1 := by omega
        have HY := Lib.hid (HY.out hH)
        have EHH := Lib.hid EH
        clear EH hH
        go_wp2_with fail
        refine (HWs.out _).mono ?_
        rintro e2 w2 ⟨rfl, rfl⟩
        cases e
        · go_wp2_with fail
          go_roundw
          case rel => exact ⟨k + 1, q, by go_num, by omega, rfl, by omega, Lib.hid ⟨by rw [HY.out, HFSs.out, if_neg (by simp)]; exact HH.out.1, by rw [HY.out, HFSs.out, if_neg (by simp)]; exact HO1.out, HB1.out⟩⟩
          case measure => simp [intOf]; omega
        · cases u
          · have HA3 : Below W1.heap.size W1 (W1.alloc (.cells #[.int .u8 a0, .int .u8 a1, .int .u8 a2, .int .u8 a3, .int .u8 a4, .int .u8 a5] 35)) := (Below.refl _ W1).alloc (Nat.le_refl _) _
            have HB3 := Lib.hid (bthen HB1.out HA3 HB1.out.size)
            have HO3 := Lib.hid (own_keep HO1.out HA3)
            have HLE := Lib.hid (show (sts (fq ⟨xa, xb, xc, xd, xe, xf, xg, xh, xi⟩ now ((xs.take k).drop H))).length + 1 ≤ 1000000000000 by
              have h1 := sts_le (fq ⟨xa, xb, xc, xd, xe, xf, xg, xh, xi⟩ now ((xs.take k).drop H))
              rw [← HH.out.1] at h1
              omega)
            clear HA3
            go_wp2_with (at_builtin; refine wpList_append_rw tM _ rfl (.tmp 47) (.tmp 50) rfl W0.heap.size _ _ _ (by simp [Act.eval, Act.put]) HO3.out (some ⟨W1.heap.size, 0, none⟩) 1 1 [⟨a0, a1, a2, a3, a4, a5⟩] (by simp [Act.eval, Act.put]) rfl (HRM.out W1) HLE.out HB3.out.size ?_)
            intro v4 w4 ho4 hg4
            have O4 := Lib.hid ho4
            have B4 := Lib.hid (HB3.out.grown hg4 HB3.out.size (fun j hj => (HO3.out.lt j hj).1))
            clear ho4 hg4
            go_wp2_with fail
            go_roundw
            case rel => exact ⟨k + 1, q + 1, by go_num, by omega, by go_num, by omega, Lib.hid ⟨by rw [HY.out, HFSs.out, if_pos (by simp), List.length_append, ← HH.out.1]; rfl, by rw [HY.out, HFSs.out, if_pos (by simp), HSSs.out, if_neg (by simp), List.length_append]; exact O4.out, B4.out⟩⟩
            case measure => simp [intOf]; omega
          · go_wp2_with fail
            go_roundw
            case rel => exact ⟨k + 1, q + 1, by go_num, by omega, by go_num, by omega, Lib.hid ⟨by rw [HY.out, HFSs.out, if_pos (by simp), List.length_append, ← HH.out.1]; rfl, by rw [HY.out, HFSs.out, if_pos (by simp), HSSs.out, if_pos (by simp)]; exact HO1.out, HB1.out⟩⟩
            case measure => simp [intOf]; omega
      · have hle : ¬ ((L : Int) - k ≤ M + 1) := by omega
        have HN0 := Lib.hid (HNN.out (by omega))
        have HN1 := Lib.hid (HNN1.out (by omega))
        have EHH := Lib.hid EH
        clear EH hH
        go_wp2_with fail
        go_roundw
        case rel => exact ⟨k + 1, q, by go_num, by omega, rfl, by omega, Lib.hid ⟨by rw [HN1.out, ← HN0.out]; exact HH.out.1, by rw [HN1.out, ← HN0.out]; exact HO1.out, HB1.out⟩⟩
        case measure => simp [intOf]; omega
    · obtain rfl : k = L := by omega
      rw [HTL.out, ← HFR.out] at HH
      clear HQ0 HTL HFS HFR hqk EH EM hM1
      obtain ⟨F, hF⟩ : ∃ F, fr ⟨xa, xb, xc, xd, xe, xf, xg, xh, xi⟩ xs now = F := ⟨_, rfl⟩
      rw [hF] at HSP HH hfl HSL
      obtain ⟨S, hS⟩ : ∃ S, sts F = S := ⟨_, rfl⟩
      rw [hS] at HSP HH HSL
      obtain ⟨hq1, ho, hb⟩ := HH.out
      obtain ⟨A2, c2, rfl, hc2, _, h1, hg⟩ := own_at (E := eM) ho (by omega)
      rw [← hq1] at HSP hfl HSL
      have B1 := Lib.hid (bthen HB0.out hb HB0.out.size)
      have C1 := Lib.hid (HC0.out.below hb)
      have X1 := Lib.hid (R.out.below hb)
      skip
      have R1 := Lib.hid h1
      have HG := Lib.hid hg
      have HAP := Lib.hid (apS_eq S)
      obtain ⟨Z, hZ⟩ : ∃ Z, S.headD zm = Z := ⟨_, rfl⟩
      rw [hZ] at HAP
      have HZ := Lib.hid hZ
      obtain ⟨K, hK⟩ : ∃ K, S.length = K := ⟨_, rfl⟩
      have HK := Lib.hid hK
      have HSK := Lib.hid (show S.take K = S by rw [← hK, List.take_length])
      rw [hK] at hc2 HSL ⊢
      clear hF hS HH ho hb hq1 h1 hg hK hZ
      obtain ⟨wa, rfl⟩ : ∃ wa, wa = wr := ⟨wr, rfl⟩
      go_wp2_with fail
      go_loopw [13, 14, 55] (fun p o i wq => ∃ k2 : Nat, i = .int .i64 k2 ∧ k2 ≤ K ∧ p = .bool (anyO (S.take k2) Z) ∧ o = .bool (otB none (S.take k2)) ∧ Hid (Below wa.heap.size wa wq)) (fun _ _ i _ => K - (intOf i).toNat)
      case atStart => exact ⟨0, rfl, by omega, rfl, rfl, Lib.hid (Below.refl _ _)⟩
      case round =>
        obtain ⟨k2, rfl, hk2, rfl, rfl, HH⟩ := hrel
        by_cases hlt2 : k2 < K
        · obtain ⟨z, hz⟩ : ∃ z, S[k2]? = some z := ⟨_, List.getElem?_eq_getElem (by rw [HK.out]; exact hlt2)⟩
          obtain ⟨y, rfl⟩ := rw_some R1.out (by rw [HK.out]; omega)
          obtain ⟨g, rfl⟩ := HG.out _ rfl
          have RR := R1.out.below HH.out
          have hat : ∀ j v, (ml z)[j]? = some v → wr.cell? ⟨g, k2 * 6 + j, none⟩ = some v := fun j v hv => by
            have h1 := RR.at hz j v hv
            rwa [show ((⟨g, 0, none⟩ : Addr).add (k2 * eM.N)) = ⟨g, k2 * 6, none⟩ by rw [Addr.add_mid, Nat.zero_add]; rfl, Addr.add_mid] at h1
          obtain ⟨z0, S', hSS⟩ : ∃ z0 S', S = z0 :: S' := by
            cases hs : S with
            | nil => rw [hs] at hz; simp at hz
            | cons z0 S' => exact ⟨z0, S', rfl⟩
          have hZ0 : Z = z0 := by rw [← HZ.out, hSS]; rfl
          have hmz := RR
          rw [hSS, ← hZ0] at hmz
          have hmg := mb_row hmz
          have HA1 : Below wr.heap.size wr (wr.alloc (Mx z)) := (Below.refl _ wr).alloc (Nat.le_refl _) _
          have HB1 := Lib.hid (bthen HH.out HA1 HH.out.size)
          have HBX := Lib.hid (mb_box wr z)
          have HBG := Lib.hid (hmg.below HA1)
          skip
          have HPT := Lib.hid (anyO_take S Z k2 hz)
          skip
          skip
          skip
          skip
          skip
          skip
          obtain ⟨e1, he1⟩ : ∃ e1, eqm z Z = e1 := ⟨_, rfl⟩
          rw [he1] at HPT
          obtain ⟨P, hP⟩ : ∃ P, anyO (S.take k2) Z = P := ⟨_, rfl⟩
          rw [hP] at HPT ⊢
          obtain ⟨Q0, hQ⟩ : ∃ Q0, otB none (S.take k2) = Q0 := ⟨_, rfl⟩
          rw [hQ] 
          obtain rfl : Q0 = false := hQ.symm
          skip
          skip
          obtain ⟨a0, a1, a2, a3, a4, a5⟩ := z
          obtain ⟨c0, c1, c2', c3, c4, c5⟩ := Z
          skip
          have hq1 : ∀ W, _ := fun W => run_eq6 a0 a1 a2 a3 a4 a5 c0 c1 c2' c3 c4 c5 9998 W
          rw [show eq6 a0 a1 a2 a3 a4 a5 c0 c1 c2' c3 c4 c5 = e1 from he1] at hq1
          skip
          skip
          skip
          skip
          simp only [Mx] at HB1 HBX HBG 
          have hK0 : (0 : Int) < K := by omega
          have i0 : wr.cell? ⟨g, k2 * 6, none⟩ = _ := hat 0 _ rfl
          have i1 := hat 1 _ rfl
          have i2 := hat 2 _ rfl
          have i3 := hat 3 _ rfl
          have i4 := hat 4 _ rfl
          have i5 := hat 5 _ rfl
          clear hat hz RR hSS hZ0 hmz hmg HA1 he1 hP hQ 
          go_upto_region 15 with fail
          clear i0 i1 i2 i3 i4 i5
          generalize wr.alloc (.cells #[.int .u8 a0, .int .u8 a1, .int .u8 a2, .int .u8 a3, .int .u8 a4, .int .u8 a5] 35) = W5 at *
          generalize wr.heap.size = N5 at *
          have x0 := HBX.out.c0
          have x1 := HBX.out.c1
          have x2 := HBX.out.c2
          have x3 := HBX.out.c3
          have x4 := HBX.out.c4
          have x5 := HBX.out.c5
          dsimp only at x0 x1 x2 x3 x4 x5
          have g0 := HBG.out.c0
          have g1 := HBG.out.c1
          have g2 := HBG.out.c2
          have g3 := HBG.out.c3
          have g4 := HBG.out.c4
          have g5 := HBG.out.c5
          dsimp only at g0 g1 g2 g3 g4 g5
          go_cut [13] from 59 to 66 (fun v wc => v = .bool (P || !e1) ∧ ∃ nn, wc = W5.drewN nn)
          case first =>
            cases P
            · go_quiet (fail)
              go_wp2_with fail
              go_meet
              exact ⟨rfl, _, rfl⟩
            · go_quiet (fail)
              go_wp2_with fail
              go_meet
              exact ⟨rfl, _, rfl⟩
          case rest =>
            obtain ⟨rfl, nn, rfl⟩ := hcut
            have HB5 := Lib.hid (bdrewN HB1.out nn)
            have HX5 := Lib.hid (HBX.out.below (bdrewN (Below.refl _ _) nn))
            skip
            clear x0 x1 x2 x3 x4 x5 g0 g1 g2 g3 g4 g5
            generalize W5.drewN nn = W6 at *
            have x0 := HX5.out.c0
            have x1 := HX5.out.c1
            have x2 := HX5.out.c2
            have x3 := HX5.out.c3
            have x4 := HX5.out.c4
            have x5 := HX5.out.c5
            dsimp only at x0 x1 x2 x3 x4 x5
            go_upto_region 16 with fail
            go_quiet (fail)
            go_wp2_with fail
            go_roundw
            case rel => exact ⟨k2 + 1, by go_num, by omega, by rw [HPT.out], rfl, Lib.hid (bdrewN HB5.out _)⟩
            case measure => simp [intOf]; omega
        · obtain rfl : k2 = K := by omega
          rw [HSK.out]
          have B3 := Lib.hid (bthen B1.out HH.out B1.out.size)
          have C3 := Lib.hid (C1.out.below HH.out)
          have X3 := Lib.hid (X1.out.below HH.out)
          rw [← HAP.out]
          have k1 := C3.out.c1
          have k2 := C3.out.c2
          dsimp only at k1 k2
          cases hap : apS S
          · have HAP := Lib.hid hap
            clear hap
            by_cases h0 : 0 < q
            · have h0' : (0 : Int) < q := by omega
              have HR := Lib.hid (HSP.out.trans (by rw [HAP.out, if_neg (by simp), if_pos h0]))
              go_wp2_with fail
              go_ret
              exact ⟨ret_int HR.out.symm, B3.out⟩
            · have h0' : ¬ (0 : Int) < q := by omega
              have HR := Lib.hid (HSP.out.trans (by rw [HAP.out, if_neg (by simp), if_neg h0]))
              go_wp2_with fail
              go_ret
              exact ⟨ret_int HR.out.symm, B3.out⟩
          · have HR := Lib.hid (HSP.out.trans (by rw [hap, if_pos rfl]))
            go_wp2_with fail
            go_ret
            exact ⟨ret_int HR.out.symm, B3.out⟩
set_option maxRecDepth 100000 in
set_option maxHeartbeats 8000000 in
theorem lawOf_some (x : Cf) (b : Nat) (m : Mc) (A : Option Addr) (xs : List Sg) (cap : Nat) (now : Int) (w : World) (hm : Hm w b m) (h : Rw eS w A xs) (hc : xs.length ≤ cap) (hx : xs.length ≤ 1000000) (hcd : x.c ≤ 1099511627776) :
    Calls Try.prog 14 #[cfv x, .pointer (some ⟨b, 0, none⟩), .slice A xs.length cap, .int .i64 now] w fun e w' => e = .returned (.int .i64 (stO x (some m) xs now)) ∧ Below w.heap.size w w' := by
  obtain ⟨H, hH⟩ : ∃ H, hd x xs.length = H := ⟨_, rfl⟩
  obtain ⟨M, hM⟩ : ∃ M : Nat, max 0 x.c = (M : Int) := ⟨(max 0 x.c).toNat, by omega⟩
  have hM1 : M ≤ 1099511627776 := by omega
  have EM : max 0 x.c = (M : Int) := hM
  have EH : H = xs.length - 1 - M := by rw [← hH]; unfold hd; rw [show max x.c 0 = max 0 x.c by omega, hM]; rfl
  have HFR := Lib.hid (show fr x xs now = fq x now (xs.drop H) by unfold fr; rw [hH])
  have hfl := fr_le x xs now
  have HSL := sts_le (fr x xs now)
  have HSP := Lib.hid (show stO x (some m) xs now = _ from by unfold stO; rfl)
  have HB0 := Lib.hid (show Below w.heap.size w (w.alloc (Cfx x)) from (Below.refl _ w).alloc (Nat.le_refl _) _)
  have HC0 := Lib.hid (cm_box w x)
  have R := Lib.hid (h.below HB0.out)
  have HM0 := Lib.hid (hm.below HB0.out)
  have HW := Lib.hid fun u n W => lawWithin_any now u n W
  have HFS := Lib.hid (fq_snoc x now)
  have hq0 := fun (k : Nat) => fq_le x now ((xs.take k).drop H)
  have HQ0 := Lib.hid hq0
  obtain ⟨L, hL⟩ : ∃ L, xs.length = L := ⟨_, rfl⟩
  have HL := Lib.hid hL
  have HTL := Lib.hid (show xs.take L = xs by rw [← hL, List.take_length])
  rw [hL] at hc hx hfl EH ⊢
  obtain ⟨xa, xb, xc, xd, xe, xf, xg, xh, xi⟩ := x
  dsimp only at hcd HSP EM HFS
  simp only [cfv, Cfx] at HB0 HC0 R HM0 ⊢
  clear h hL hH hM hq0 hm
  go_enter Try.func14, Try.ntmps14
  go_upto_region 1 with fail
  change (Code.region _ _ _).wp _ _ _ (w.alloc (.cells #[.int .i64 xa, .int .i64 xb, .int .i64 xc, .int .i64 xd, .int .i64 xe, .int .i64 xf, .int .i64 xg, .int .i64 xh, .int .i64 xi] 27))
  generalize w.alloc (.cells #[.int .i64 xa, .int .i64 xb, .int .i64 xc, .int .i64 xd, .int .i64 xe, .int .i64 xf, .int .i64 xg, .int .i64 xh, .int .i64 xi] 27) = W0 at *
  go_wp2_with fail
  go_loopw [9, 10, 19] (fun v n i wr => ∃ k q : Nat, i = .int .i64 k ∧ k ≤ L ∧ n = .int .i64 q ∧ q ≤ k ∧ Hid (q = (fq ⟨xa, xb, xc, xd, xe, xf, xg, xh, xi⟩ now ((xs.take k).drop H)).length ∧ wr.ownsRow W0.heap.size 35 6 v (sts (fq ⟨xa, xb, xc, xd, xe, xf, xg, xh, xi⟩ now ((xs.take k).drop H))).length (eM.cs (sts (fq ⟨xa, xb, xc, xd, xe, xf, xg, xh, xi⟩ now ((xs.take k).drop H)))) ∧ Below W0.heap.size W0 wr)) (fun _ _ i _ => L - (intOf i).toNat)
  case atStart => exact ⟨0, 0, rfl, by omega, rfl, by omega, Lib.hid ⟨by simp [fq], by simpa [fq, sts, El.cs] using World.ownsRow_nil _ _ _ _, Below.refl _ _⟩⟩
  case round =>
    obtain ⟨k, q, rfl, hk, rfl, hqk, HH⟩ := hrel
    by_cases hlt : k < L
    · obtain ⟨s, hs⟩ : ∃ s, xs[k]? = some s := ⟨_, List.getElem?_eq_getElem (by rw [HL.out]; exact hlt)⟩
      have RR := R.out.below HH.out.2.2
      obtain ⟨y, rfl⟩ := rw_some RR (by rw [HL.out]; omega)
      have hat := RR.at hs
      have HBX := Lib.hid (sb_box wr s)
      have HA1 : Below wr.heap.size wr (wr.alloc (Sx s)) := (Below.refl _ wr).alloc (Nat.le_refl _) _
      have HB1 := Lib.hid (bthen HH.out.2.2 HA1 HH.out.2.2.size)
      have HO1 := Lib.hid (own_keep HH.out.2.1 HA1)
      have HC1 := Lib.hid ((HC0.out.below HH.out.2.2).below HA1)
      have HY := Lib.hid (fun (h : H ≤ k) => pre_yes hs h)
      have HNN := Lib.hid (fun (h : k ≤ H) => pre_no (xs := xs) h)
      have HNN1 := Lib.hid (fun (h : k + 1 ≤ H) => pre_no (xs := xs) h)
      have HWs := Lib.hid (HW.out s.t xa)
      have HFSs := Lib.hid (HFS.out ((xs.take k).drop H) s)
      have HSSs := Lib.hid (sts_snoc (fq ⟨xa, xb, xc, xd, xe, xf, xg, xh, xi⟩ now ((xs.take k).drop H)) s)
      obtain ⟨e, he⟩ : ∃ e, wi now s.t xa = e := ⟨_, rfl⟩
      rw [he] at HWs HFSs
      obtain ⟨u, hu⟩ : ∃ u, noB s.m = u := ⟨_, rfl⟩
      rw [hu] at HSSs
      obtain ⟨f, mm, t⟩ := s
      have HRM := Lib.hid fun W => rm_one W mm 35
      obtain ⟨a0, a1, a2, a3, a4, a5⟩ := mm
      have hue : eq6 a0 a1 a2 a3 a4 a5 0 0 0 0 0 0 = u := hu
      have hqq : ∀ W, _ := fun W => run_eq6 a0 a1 a2 a3 a4 a5 0 0 0 0 0 0 9998 W
      rw [hue] at hqq
      simp only [Sx, ml] at HWs HBX HB1 HO1 HRM HC1
      clear hs he hu hue RR HA1
      go_upto_region 6 with (refine at_load48 _ rfl rfl _ _ rfl hat ?_)
      generalize wr.alloc (.cells #[.int .i64 f, .int .u8 a0, .int .u8 a1, .int .u8 a2, .int .u8 a3, .int .u8 a4, .int .u8 a5, .int .i64 t] 48) = W1 at *
      generalize wr.heap.size = N1 at *
      have d0 := HC1.out.c0
      have d2 := HC1.out.c2
      have e7 := HBX.out.c7
      have e1 := HBX.out.c1
      have e2 := HBX.out.c2
      have e3 := HBX.out.c3
      have e4 := HBX.out.c4
      have e5 := HBX.out.c5
      have e6 := HBX.out.c6
      dsimp only at d0 d2 e1 e2 e3 e4 e5 e6 e7
      by_cases hH : H ≤ k
      · have hle : (L : Int) - k ≤ M + 1 := by omega
        have HY := Lib.hid (HY.out hH)
        have EHH := Lib.hid EH
        clear EH hH
        go_wp2_with fail
        refine (HWs.out _).mono ?_
        rintro e2 w2 ⟨rfl, rfl⟩
        cases e
        · go_wp2_with fail
          go_roundw
          case rel => exact ⟨k + 1, q, by go_num, by omega, rfl, by omega, Lib.hid ⟨by rw [HY.out, HFSs.out, if_neg (by simp)]; exact HH.out.1, by rw [HY.out, HFSs.out, if_neg (by simp)]; exact HO1.out, HB1.out⟩⟩
          case measure => simp [intOf]; omega
        · cases u
          · have HA3 : Below W1.heap.size W1 (W1.alloc (.cells #[.int .u8 a0, .int .u8 a1, .int .u8 a2, .int .u8 a3, .int .u8 a4, .int .u8 a5] 35)) := (Below.refl _ W1).alloc (Nat.le_refl _) _
            have HB3 := Lib.hid (bthen HB1.out HA3 HB1.out.size)
            have HO3 := Lib.hid (own_keep HO1.out HA3)
            have HLE := Lib.hid (show (sts (fq ⟨xa, xb, xc, xd, xe, xf, xg, xh, xi⟩ now ((xs.take k).drop H))).length + 1 ≤ 1000000000000 by
              have h1 := sts_le (fq ⟨xa, xb, xc, xd, xe, xf, xg, xh, xi⟩ now ((xs.take k).drop H))
              rw [← HH.out.1] at h1
              omega)
            clear HA3
            go_wp2_with (at_builtin; refine wpList_append_rw tM _ rfl (.tmp 47) (.tmp 50) rfl W0.heap.size _ _ _ (by simp [Act.eval, Act.put]) HO3.out (some ⟨W1.heap.size, 0, none⟩) 1 1 [⟨a0, a1, a2, a3, a4, a5⟩] (by simp [Act.eval, Act.put]) rfl (HRM.out W1) HLE.out HB3.out.size ?_)
            intro v4 w4 ho4 hg4
            have O4 := Lib.hid ho4
            have B4 := Lib.hid (HB3.out.grown hg4 HB3.out.size (fun j hj => (HO3.out.lt j hj).1))
            clear ho4 hg4
            go_wp2_with fail
            go_roundw
            case rel => exact ⟨k + 1, q + 1, by go_num, by omega, by go_num, by omega, Lib.hid ⟨by rw [HY.out, HFSs.out, if_pos (by simp), List.length_append, ← HH.out.1]; rfl, by rw [HY.out, HFSs.out, if_pos (by simp), HSSs.out, if_neg (by simp), List.length_append]; exact O4.out, B4.out⟩⟩
            case measure => simp [intOf]; omega
          · go_wp2_with fail
            go_roundw
            case rel => exact ⟨k + 1, q + 1, by go_num, by omega, by go_num, by omega, Lib.hid ⟨by rw [HY.out, HFSs.out, if_pos (by simp), List.length_append, ← HH.out.1]; rfl, by rw [HY.out, HFSs.out, if_pos (by simp), HSSs.out, if_pos (by simp)]; exact HO1.out, HB1.out⟩⟩
            case measure => simp [intOf]; omega
      · have hle : ¬ ((L : Int) - k ≤ M + 1) := by omega
        have HN0 := Lib.hid (HNN.out (by omega))
        have HN1 := Lib.hid (HNN1.out (by omega))
        have EHH := Lib.hid EH
        clear EH hH
        go_wp2_with fail
        go_roundw
        case rel => exact ⟨k + 1, q, by go_num, by omega, rfl, by omega, Lib.hid ⟨by rw [HN1.out, ← HN0.out]; exact HH.out.1, by rw [HN1.out, ← HN0.out]; exact HO1.out, HB1.out⟩⟩
        case measure => simp [intOf]; omega
    · obtain rfl : k = L := by omega
      rw [HTL.out, ← HFR.out] at HH
      clear HQ0 HTL HFS HFR hqk EH EM hM1
      obtain ⟨F, hF⟩ : ∃ F, fr ⟨xa, xb, xc, xd, xe, xf, xg, xh, xi⟩ xs now = F := ⟨_, rfl⟩
      rw [hF] at HSP HH hfl HSL
      obtain ⟨S, hS⟩ : ∃ S, sts F = S := ⟨_, rfl⟩
      rw [hS] at HSP HH HSL
      obtain ⟨hq1, ho, hb⟩ := HH.out
      obtain ⟨A2, c2, rfl, hc2, _, h1, hg⟩ := own_at (E := eM) ho (by omega)
      rw [← hq1] at HSP hfl HSL
      have B1 := Lib.hid (bthen HB0.out hb HB0.out.size)
      have C1 := Lib.hid (HC0.out.below hb)
      have X1 := Lib.hid (R.out.below hb)
      have M1 := Lib.hid (HM0.out.below hb)
      have R1 := Lib.hid h1
      have HG := Lib.hid hg
      have HAP := Lib.hid (apS_eq S)
      obtain ⟨Z, hZ⟩ : ∃ Z, S.headD zm = Z := ⟨_, rfl⟩
      rw [hZ] at HAP
      have HZ := Lib.hid hZ
      obtain ⟨K, hK⟩ : ∃ K, S.length = K := ⟨_, rfl⟩
      have HK := Lib.hid hK
      have HSK := Lib.hid (show S.take K = S by rw [← hK, List.take_length])
      rw [hK] at hc2 HSL ⊢
      clear hF hS HH ho hb hq1 h1 hg hK hZ
      obtain ⟨wa, rfl⟩ : ∃ wa, wa = wr := ⟨wr, rfl⟩
      go_wp2_with fail
      go_loopw [13, 14, 55] (fun p o i wq => ∃ k2 : Nat, i = .int .i64 k2 ∧ k2 ≤ K ∧ p = .bool (anyO (S.take k2) Z) ∧ o = .bool (otB (some m) (S.take k2)) ∧ Hid (Below wa.heap.size wa wq)) (fun _ _ i _ => K - (intOf i).toNat)
      case atStart => exact ⟨0, rfl, by omega, rfl, by simp [otB, anyO], Lib.hid (Below.refl _ _)⟩
      case round =>
        obtain ⟨k2, rfl, hk2, rfl, rfl, HH⟩ := hrel
        by_cases hlt2 : k2 < K
        · obtain ⟨z, hz⟩ : ∃ z, S[k2]? = some z := ⟨_, List.getElem?_eq_getElem (by rw [HK.out]; exact hlt2)⟩
          obtain ⟨y, rfl⟩ := rw_some R1.out (by rw [HK.out]; omega)
          obtain ⟨g, rfl⟩ := HG.out _ rfl
          have RR := R1.out.below HH.out
          have hat : ∀ j v, (ml z)[j]? = some v → wr.cell? ⟨g, k2 * 6 + j, none⟩ = some v := fun j v hv => by
            have h1 := RR.at hz j v hv
            rwa [show ((⟨g, 0, none⟩ : Addr).add (k2 * eM.N)) = ⟨g, k2 * 6, none⟩ by rw [Addr.add_mid, Nat.zero_add]; rfl, Addr.add_mid] at h1
          obtain ⟨z0, S', hSS⟩ : ∃ z0 S', S = z0 :: S' := by
            cases hs : S with
            | nil => rw [hs] at hz; simp at hz
            | cons z0 S' => exact ⟨z0, S', rfl⟩
          have hZ0 : Z = z0 := by rw [← HZ.out, hSS]; rfl
          have hmz := RR
          rw [hSS, ← hZ0] at hmz
          have hmg := mb_row hmz
          have HA1 : Below wr.heap.size wr (wr.alloc (Mx z)) := (Below.refl _ wr).alloc (Nat.le_refl _) _
          have HB1 := Lib.hid (bthen HH.out HA1 HH.out.size)
          have HBX := Lib.hid (mb_box wr z)
          have HBG := Lib.hid (hmg.below HA1)
          have HM1 := Lib.hid ((M1.out.below HH.out).below HA1)
          have HPT := Lib.hid (anyO_take S Z k2 hz)
          have HOT := Lib.hid (show otB (some m) (S.take (k2 + 1)) = (!noB m && (anyO (S.take k2) m || !eqm z m)) by show (!noB m && anyO (S.take (k2 + 1)) m) = _; rw [anyO_take S m k2 hz])
          obtain ⟨e2, he2⟩ : ∃ e2, eqm z m = e2 := ⟨_, rfl⟩
          rw [he2] at HOT
          obtain ⟨nb, hnb⟩ : ∃ nb, noB m = nb := ⟨_, rfl⟩
          rw [hnb] at HOT
          have HQB := Lib.hid (show otB (some m) (S.take k2) = (!nb && anyO (S.take k2) m) by show (!noB m && anyO (S.take k2) m) = _; rw [hnb])
          obtain ⟨e1, he1⟩ : ∃ e1, eqm z Z = e1 := ⟨_, rfl⟩
          rw [he1] at HPT
          obtain ⟨P, hP⟩ : ∃ P, anyO (S.take k2) Z = P := ⟨_, rfl⟩
          rw [hP] at HPT ⊢
          obtain ⟨Q0, hQ⟩ : ∃ Q0, otB (some m) (S.take k2) = Q0 := ⟨_, rfl⟩
          rw [hQ] at HQB ⊢
          skip
          obtain ⟨AO, hAO⟩ : ∃ AO, anyO (S.take k2) m = AO := ⟨_, rfl⟩
          rw [hAO] at HOT HQB
          obtain ⟨a0, a1, a2, a3, a4, a5⟩ := z
          obtain ⟨c0, c1, c2', c3, c4, c5⟩ := Z
          obtain ⟨m0, m1, m2, m3, m4, m5⟩ := m
          have hq1 : ∀ W, _ := fun W => run_eq6 a0 a1 a2 a3 a4 a5 c0 c1 c2' c3 c4 c5 9998 W
          rw [show eq6 a0 a1 a2 a3 a4 a5 c0 c1 c2' c3 c4 c5 = e1 from he1] at hq1
          have hq2 : ∀ W, _ := fun W => run_eq6 m0 m1 m2 m3 m4 m5 0 0 0 0 0 0 9998 W
          rw [show eq6 m0 m1 m2 m3 m4 m5 0 0 0 0 0 0 = nb from hnb] at hq2
          have hq3 : ∀ W, _ := fun W => run_eq6 a0 a1 a2 a3 a4 a5 m0 m1 m2 m3 m4 m5 9998 W
          rw [show eq6 a0 a1 a2 a3 a4 a5 m0 m1 m2 m3 m4 m5 = e2 from he2] at hq3
          simp only [Mx] at HB1 HBX HBG HM1
          have hK0 : (0 : Int) < K := by omega
          have i0 : wr.cell? ⟨g, k2 * 6, none⟩ = _ := hat 0 _ rfl
          have i1 := hat 1 _ rfl
          have i2 := hat 2 _ rfl
          have i3 := hat 3 _ rfl
          have i4 := hat 4 _ rfl
          have i5 := hat 5 _ rfl
          clear hat hz RR hSS hZ0 hmz hmg HA1 he1 hP hQ he2 hnb hAO
          go_upto_region 15 with fail
          clear i0 i1 i2 i3 i4 i5
          generalize wr.alloc (.cells #[.int .u8 a0, .int .u8 a1, .int .u8 a2, .int .u8 a3, .int .u8 a4, .int .u8 a5] 35) = W5 at *
          generalize wr.heap.size = N5 at *
          have x0 := HBX.out.c0
          have x1 := HBX.out.c1
          have x2 := HBX.out.c2
          have x3 := HBX.out.c3
          have x4 := HBX.out.c4
          have x5 := HBX.out.c5
          dsimp only at x0 x1 x2 x3 x4 x5
          have g0 := HBG.out.c0
          have g1 := HBG.out.c1
          have g2 := HBG.out.c2
          have g3 := HBG.out.c3
          have g4 := HBG.out.c4
          have g5 := HBG.out.c5
          dsimp only at g0 g1 g2 g3 g4 g5
          go_cut [13] from 59 to 66 (fun v wc => v = .bool (P || !e1) ∧ ∃ nn, wc = W5.drewN nn)
          case first =>
            cases P
            · go_quiet (fail)
              go_wp2_with fail
              go_meet
              exact ⟨rfl, _, rfl⟩
            · go_quiet (fail)
              go_wp2_with fail
              go_meet
              exact ⟨rfl, _, rfl⟩
          case rest =>
            obtain ⟨rfl, nn, rfl⟩ := hcut
            have HB5 := Lib.hid (bdrewN HB1.out nn)
            have HX5 := Lib.hid (HBX.out.below (bdrewN (Below.refl _ _) nn))
            have HM5 := Lib.hid (HM1.out.below (bdrewN (Below.refl _ _) nn))
            clear x0 x1 x2 x3 x4 x5 g0 g1 g2 g3 g4 g5
            generalize W5.drewN nn = W6 at *
            have x0 := HX5.out.c0
            have x1 := HX5.out.c1
            have x2 := HX5.out.c2
            have x3 := HX5.out.c3
            have x4 := HX5.out.c4
            have x5 := HX5.out.c5
            dsimp only at x0 x1 x2 x3 x4 x5
            have h2 := HM5.out.c2
            have h3 := HM5.out.c3
            have h4 := HM5.out.c4
            have h5 := HM5.out.c5
            have h6 := HM5.out.c6
            have h7 := HM5.out.c7
            dsimp only at h2 h3 h4 h5 h6 h7
            cases Q0
            · cases nb
              · have hAO : AO = false := by have := HQB.out; simpa using this.symm
                go_upto_region 16 with fail
                go_quiet (fail)
                go_wp2_with fail
                go_roundw
                case rel => exact ⟨k2 + 1, by go_num, by omega, by rw [HPT.out], by rw [HOT.out, hAO]; rfl, Lib.hid (bdrewN HB5.out _)⟩
                case measure => simp [intOf]; omega
              · skip
                go_upto_region 16 with fail
                go_quiet (fail)
                go_wp2_with fail
                go_roundw
                case rel => exact ⟨k2 + 1, by go_num, by omega, by rw [HPT.out], by rw [HOT.out]; rfl, Lib.hid (bdrewN HB5.out _)⟩
                case measure => simp [intOf]; omega
            · have hAO : nb = false ∧ AO = true := by have := HQB.out; simpa using this.symm
              go_upto_region 16 with fail
              go_quiet (fail)
              go_wp2_with fail
              go_roundw
              case rel => exact ⟨k2 + 1, by go_num, by omega, by rw [HPT.out], by rw [HOT.out, hAO.1, hAO.2]; rfl, Lib.hid (bdrewN HB5.out _)⟩
              case measure => simp [intOf]; omega
        · obtain rfl : k2 = K := by omega
          rw [HSK.out]
          have B3 := Lib.hid (bthen B1.out HH.out B1.out.size)
          have C3 := Lib.hid (C1.out.below HH.out)
          have X3 := Lib.hid (X1.out.below HH.out)
          rw [← HAP.out]
          have k1 := C3.out.c1
          have k2 := C3.out.c2
          dsimp only at k1 k2
          cases hap : apS S
          · have HAP := Lib.hid hap
            clear hap
            rw [show otB (some m) S = (!noB m && anyO S m) from rfl]
            cases hq : (!noB m && anyO S m)
            · have HQ := Lib.hid hq
              clear hq
              by_cases hn : xc ≤ q
              · have hn' : (q : Int) ≥ xc := hn
                have HR := Lib.hid (HSP.out.trans (by rw [HAP.out, if_neg (by simp), HQ.out, if_neg (by simp), if_pos hn]))
                go_wp2_with fail
                go_ret
                exact ⟨ret_int HR.out.symm, B3.out⟩
              · have hn' : ¬ (q : Int) ≥ xc := hn
                have HR := Lib.hid (HSP.out.trans (by rw [HAP.out, if_neg (by simp), HQ.out, if_neg (by simp), if_neg hn]))
                rcases k with _ | J
                · have HOl := Lib.hid (show oldB ⟨xa, xb, xc, xd, xe, xf, xg, xh, xi⟩ xs now = false by
                    have := List.eq_nil_of_length_eq_zero HL.out
                    rw [this]; rfl)
                  go_upto_region 28 with fail
                  go_quiet (fail)
                  go_wp2_with fail
                  go_ret
                  exact ⟨ret_int (by rw [HR.out, HOl.out]; rfl), bdrewN B3.out _⟩
                · obtain ⟨s, hs⟩ : ∃ s, xs[J]? = some s := ⟨_, List.getElem?_eq_getElem (by rw [HL.out]; omega)⟩
                  obtain ⟨y, rfl⟩ := rw_some X3.out (by rw [HL.out]; omega)
                  have hat := X3.out.at hs
                  have j7 : wr.cell? ⟨(y.add (J * 8)).block, (y.add (J * 8)).off + 7, none⟩ = some (.int .i64 s.t) := hat 7 _ rfl
                  have hj : IntKind.i64.wrap (J : Int) = (J : Int) := i64_nat (by omega)
                  have HWW := Lib.hid (HW.out s.t xb)
                  have HOl := Lib.hid (show oldB ⟨xa, xb, xc, xd, xe, xf, xg, xh, xi⟩ xs now = !wi now s.t xb by
                    unfold oldB
                    rw [List.getLast?_eq_getElem?, HL.out, show J + 1 - 1 = J by omega, hs])
                  clear hs hat
                  cases hw : wi now s.t xb
                  · have HR2 := Lib.hid (HR.out.trans (by rw [HOl.out, hw, if_pos (by simp)]))
                    rw [hw] at HWW
                    clear hw
                    go_upto_region 28 with fail
                    go_quiet ((go_at_call 22; exact Calls.quiet_of_same ((HWW.out _).mono fun e w' h => ⟨h.1, h.2.symm⟩)))
                    go_wp2_with fail
                    go_ret
                    exact ⟨ret_int HR2.out.symm, bdrewN B3.out _⟩
                  · have HR2 := Lib.hid (HR.out.trans (by rw [HOl.out, hw, if_neg (by simp)]))
                    rw [hw] at HWW
                    clear hw
                    go_upto_region 28 with fail
                    go_quiet ((go_at_call 22; exact Calls.quiet_of_same ((HWW.out _).mono fun e w' h => ⟨h.1, h.2.symm⟩)))
                    go_wp2_with fail
                    go_ret
                    exact ⟨ret_int HR2.out.symm, bdrewN B3.out _⟩
            · have HR := Lib.hid (HSP.out.trans (by rw [HAP.out, if_neg (by simp), hq, if_pos rfl]))
              go_wp2_with fail
              go_ret
              exact ⟨ret_int HR.out.symm, B3.out⟩
          · have HR := Lib.hid (HSP.out.trans (by rw [hap, if_pos rfl]))
            go_wp2_with fail
            go_ret
            exact ⟨ret_int HR.out.symm, B3.out⟩
theorem lawOf_any (x : Cf) (h : Option (Nat × Mc)) (A : Option Addr) (xs : List Sg) (cap : Nat) (now : Int) (w : World) (hm : HP w h) (hr : Rw eS w A xs) (hc : xs.length ≤ cap) (hx : xs.length ≤ 1000000) (hcd : x.c ≤ 1099511627776) :
    Calls Try.prog 14 #[cfv x, hp h, .slice A xs.length cap, .int .i64 now] w fun e w' => e = .returned (.int .i64 (stO x (h.map (·.2)) xs now)) ∧ Below w.heap.size w w' := by
  cases h with
  | none => exact lawOf_nil x A xs cap now w hr hc hx hcd
  | some p => exact lawOf_some x p.1 p.2 A xs cap now w hm hr hc hx hcd
end Go.Proofs.Ytpiieagdgickgaa
