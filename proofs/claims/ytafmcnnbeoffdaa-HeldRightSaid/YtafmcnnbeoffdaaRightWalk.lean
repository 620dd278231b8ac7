/-
  HeldRight, walked. Conditions: the rows that came in have not more than their room.
-/
import Derived.Test.YtafmcnnbeoffdaaTurnsWalk
set_option linter.unusedSimpArgs false
set_option linter.unusedVariables false
namespace Go.Proofs.Ytafmcnnbeoffdaa
open Go.RowKit

theorem own_cell {w : World} {base g n cap q : Nat} {ys : List Hr} {x : Hr} (h : w.ownsRow base 33 8 (.slice (some ⟨g, 0, none⟩) n cap) n (hcs ys)) (hx : ys[q]? = some x) : w.cell? ⟨g, q * 8, none⟩ = some (.int .u32 x.a) ∧ w.frozen? ⟨g, q * 8, none⟩ = false := by
  constructor
  · have := h.cells (g := g) rfl (q * 8 + 0) (.int .u32 x.a) (by rw [hcs_at ys q x 0 hx (by omega)]; rfl)
    rw [Addr.add_mid] at this
    simpa using this
  · rcases h.2 with ⟨e, _⟩ | ⟨g', cap', cur, e, _, hg, _⟩
    · cases e
    · injection e with e1 e2 e3
      injection e1 with e1
      injection e1 with e1
      subst e1
      unfold World.frozen?
      rw [hg]
      simp
theorem hs_set {w : World} {base g n cap q : Nat} {ys : List Hr} {x : Hr} {na : Int} (h : w.ownsRow base 33 8 (.slice (some ⟨g, 0, none⟩) n cap) n (hcs ys)) (hok : ∀ z ∈ ys, z.ok) (hn : ys.length = n) (h48 : n ≤ 48) (hx : ys[q]? = some x) (h0 : 0 ≤ na) (h1 : na < 4294967296) :
    Hs (w.setCell ⟨g, q * 8, none⟩ (.int .u32 na)) (some ⟨g, 0, none⟩) (ys.set q ⟨na, x.T, x.m0, x.m1, x.m2, x.m3, x.m4, x.m5⟩) := by
  subst hn
  have hc : ∀ (i j : Nat) (z : Hr) (v : Value), ys[i]? = some z → (hl z)[j]? = some v → w.cell? ⟨g, i * 8 + j, none⟩ = some v := fun i j z v hz hv => by
    have hj : j < 8 := by have := (List.getElem?_eq_some_iff.1 hv).1; rwa [hl_length] at this
    have := h.cells (g := g) rfl (i * 8 + j) v (by rw [hcs_at ys i z j hz hj]; exact hv)
    rw [Addr.add_mid] at this
    simpa using this
  have hx0 := hc q 0 x _ hx rfl
  refine ⟨?_, fun i z hz => ?_⟩
  · rw [List.length_set]; omega
  · by_cases e : i = q
    · subst e
      rw [List.getElem?_set_self (by have := (List.getElem?_eq_some_iff.1 hx).1; exact this)] at hz
      injection hz with hz
      subst hz
      refine ⟨⟨h0, h1, (hok x (List.mem_of_getElem? hx)).2.2⟩, _, rfl, fun j v hv => ?_⟩
      rw [Addr.add_mid, Nat.zero_add]
      rcases Nat.eq_zero_or_pos j with rfl | hp
      · have : v = .int .u32 na := by simp [hl] at hv; exact hv.symm
        subst this
        exact World.cell?_setCell_same _ _ _ hx0
      · rw [World.cell?_setCell_other _ _ _ _ (by intro e; injection e with _ e; omega)]
        refine hc i j x v hx ?_
        match j, hp, hv with
        | 1, _, hv => exact hv
        | 2, _, hv => exact hv
        | 3, _, hv => exact hv
        | 4, _, hv => exact hv
        | 5, _, hv => exact hv
        | 6, _, hv => exact hv
        | 7, _, hv => exact hv
        | j + 8, _, hv => simp [hl] at hv
    · rw [List.getElem?_set_ne (Ne.symm e)] at hz
      refine ⟨hok z (List.mem_of_getElem? hz), _, rfl, fun j v hv => ?_⟩
      have hj : j < 8 := by have := (List.getElem?_eq_some_iff.1 hv).1; rwa [hl_length] at this
      rw [Addr.add_mid, Nat.zero_add, World.cell?_setCell_other _ _ _ _ (by intro e; injection e with _ e; omega)]
      exact hc i j z v hz hv

set_option maxRecDepth 100000 in
set_option maxHeartbeats 4000000 in
theorem heldRight_walk (A0 : Option Addr) (hs0 : List Hr) (cap0 : Nat) (A : Option Addr) (xs : List Ac) (cap : Nat) (p : Int) (w : World) (h0 : Hs w A0 hs0) (hcap0 : hs0.length ≤ cap0) (h : Ra w A xs) (hcap : xs.length ≤ cap) (p0 : 0 ≤ p) (p1 : p < 256) :
    Calls Try.prog 5 #[.slice A0 hs0.length cap0, .slice A xs.length cap, .int .u8 p] w fun e w' => e = .returned (.bool true) ∧ Below w.heap.size w w' := by
  have hnn := near_in p
  have HN := Lib.hid fun W => near_any p W p0 p1
  generalize near p = na at *
  have HGD := Lib.hid (SM_good xs h.oks (min xs.length 60))
  have HSO := Lib.hid fun W (hW : Below w.heap.size w W) => some_any A xs cap W (h.below hW) hcap
  generalize SM xs (min xs.length 60) = ys at *
  have hy48 := HGD.out.2.2
  have HRT := Lib.hid fun A2 c2 W (hW : Hs W A2 ys) (hc : ys.length ≤ c2) => right15_any A2 ys c2 W hW hc
  rw [HGD.out.1.right HGD.out.2.1 HGD.out.2.2] at HRT
  obtain ⟨YL, hYL⟩ : ∃ YL, ys.length = YL := ⟨_, rfl⟩
  have HYL := Lib.hid hYL
  have R0 := Lib.hid h0
  rw [hYL] at hy48 HRT
  obtain ⟨L0, hL0⟩ : ∃ L0, hs0.length = L0 := ⟨_, rfl⟩
  have HL0 := Lib.hid hL0
  have hL47 : L0 ≤ 140737488355328 := by rw [← hL0]; exact h0.1
  rw [hL0] at hcap0 ⊢
  clear h hYL h0 hL0
  go_enter Try.func5, Try.ntmps5
  go_wp2_with fail
  refine (awake_any _).mono ?_
  rintro e w1 ⟨rfl, hb1⟩
  have B1 := Lib.hid hb1
  clear hb1
  go_wp2_with fail
  refine (HSO.out _ B1.out).mono ?_
  rintro e w2 ⟨A2, c2, rfl, hc2, _, hH2, hb2⟩
  have B2 := Lib.hid (B1.out.trans (hb2.mono B1.out.size))
  have R2 := Lib.hid hH2
  rw [HYL.out] at hc2 ⊢
  clear hb2 hH2 HSO B1
  go_wp2_with fail
  refine (HRT.out A2 c2 _ R2.out hc2).mono ?_
  rintro e w3 ⟨rfl, hb⟩
  have B3 := Lib.hid (B2.out.trans (hb.mono B2.out.size))
  have R3 := Lib.hid (R2.out.below hb)
  clear hb B2 R2 HRT
  go_upto_if 22 with fail
  go_cut [7] from 20 to 79 (fun v wq => ∃ A' xs' c', v = .slice A' xs'.length c' ∧ xs'.length ≤ c' ∧ Hid (Hs wq A' xs' ∧ Below w.heap.size w wq))
  case first =>
    by_cases hy0 : 0 < YL
    · have hyi : (0 : Int) < YL := by omega
      obtain ⟨q, hq⟩ : ∃ q : Nat, p % YL = q := ⟨(p % YL).toNat, by have := Int.emod_nonneg p (show (YL : Int) ≠ 0 by omega); omega⟩
      have hqi : (q : Int) < YL := by have := Int.emod_lt_of_pos p hyi; omega
      obtain ⟨x, hx⟩ : ∃ x, ys[q]? = some x := ⟨_, List.getElem?_eq_getElem (by rw [HYL.out]; omega)⟩
      have HX := Lib.hid hx
      have HOK := Lib.hid (hs_oks R3.out)
      have HWP := Lib.hid (show IntKind.i64.wrap p = p by rw [IntKind.wrap_i64]; omega)
      have HTM := Lib.hid (show p.tmod YL = q by rw [Int.tmod_eq_emod_of_nonneg p0]; exact hq)
      have hown := World.ownsRow_nil w3 w3.heap.size 33 8
      have R3' := R3.out
      clear hq hx
      go_wp2_with (at_builtin; refine wpList_append_hs _ rfl (.const (.slice none 0 0)) (.tmp 23) rfl w3.heap.size (.slice none 0 0) 0 [] rfl hown A2 YL c2 ys (by simp [Act.eval, Act.put]) HYL.out.symm R3' (by omega) (Nat.le_refl _) ?_)
      intro v4 w4 ho4 hg4
      have B34 : Below w3.heap.size w3 w4 := (Below.refl _ w3).grown hg4 (Nat.le_refl _) (fun j hj => by simp [Value.ownBlock] at hj)
      have B4 := Lib.hid (B3.out.trans (B34.mono B3.out.size))
      (try simp only [Nat.zero_add, List.nil_append] at ho4)
      obtain ⟨g, cp, hv4, hgb, hcp⟩ : ∃ g cp, v4 = .slice (some ⟨g, 0, none⟩) YL cp ∧ w3.heap.size ≤ g ∧ YL ≤ cp := by
        rcases ho4.2 with ⟨_, e⟩ | ⟨g, cp, cur, e, hb, _, hle, _⟩
        · omega
        · exact ⟨g, cp, e, hb, hle⟩
      subst hv4
      have HOW := Lib.hid ho4
      have HGB := Lib.hid (show w.heap.size ≤ g from Nat.le_trans B3.out.size hgb)
      clear ho4 hg4 B34 hown R3'
      go_wp2_with fail
      refine wp_region_below_end (by simp) [fx (.slice (some ⟨g, 0, none⟩) YL cp), fx (.int .u8 p), fx (.int .i64 p), fx (.slice (some ⟨g, 0, none⟩) YL cp), fx (.int .i64 (YL : Int)), fx (.int .i64 (q : Int)), fx (.int .u8 p), fx (.int .u32 na), fx (.pointer (some ⟨g, q * 8, none⟩)), fx (.pointer (some ⟨g, q * 8, none⟩))]
        (by kernel_rfl) (by kernel_rfl) (by kernel_rfl) (by kernel_rfl) ?_ ?_ ?_
      · simp only [List.mem_cons, List.not_mem_nil, or_false]
        rintro φ (rfl | rfl | rfl | rfl | rfl | rfl | rfl | rfl | rfl | rfl)
        all_goals exact stable_fx _
      · refine OgSteps.cons ?_ (OgSteps.cons ?_ (OgSteps.cons ?_ (OgSteps.cons ?_ (OgSteps.cons ?_ (OgSteps.cons ?_ (OgSteps.cons ?_ (OgSteps.cons ?_ (OgSteps.cons ?_ (OgSteps.cons ?_ (OgSteps.nil))))))))))
        · refine OgStep.pure ?_ ?_
          · rfl
          intro u W hS hp
          refine ⟨.slice (some ⟨g, 0, none⟩) YL cp, ?_, rfl⟩
          simp only [ogMk, Act.put, List.setIfInBounds_toArray, List.set_cons_zero, List.set_cons_succ, Nat.zero_add, Nat.reduceAdd]
          simp [execOp, Act.eval, go_sem]
        · refine OgStep.pure ?_ ?_
          · rfl
          intro u W hS hp
          refine ⟨.int .u8 p, ?_, rfl⟩
          simp only [ogMk, Act.put, List.setIfInBounds_toArray, List.set_cons_zero, List.set_cons_succ, Nat.zero_add, Nat.reduceAdd]
          simp [execOp, Act.eval, go_sem]
        · refine OgStep.pure ?_ ?_
          · rfl
          intro u W hS hp
          have h1 : u 1 = .int .u8 p := hp ⟨1, .data⟩ (by simp) rfl
          have R := HWP.out
          refine ⟨.int .i64 p, ?_, rfl⟩
          simp only [ogMk, Act.put, List.setIfInBounds_toArray, List.set_cons_zero, List.set_cons_succ, Nat.zero_add, Nat.reduceAdd]
          simp [execOp, Act.eval, go_sem, h1, R]
        · refine OgStep.pure ?_ ?_
          · rfl
          intro u W hS hp
          refine ⟨.slice (some ⟨g, 0, none⟩) YL cp, ?_, rfl⟩
          simp only [ogMk, Act.put, List.setIfInBounds_toArray, List.set_cons_zero, List.set_cons_succ, Nat.zero_add, Nat.reduceAdd]
          simp [execOp, Act.eval, go_sem]
        · refine OgStep.pure ?_ ?_
          · rfl
          intro u W hS hp
          have h3 : u 3 = .slice (some ⟨g, 0, none⟩) YL cp := hp ⟨3, .data⟩ (by simp) rfl
          refine ⟨.int .i64 (YL : Int), ?_, rfl⟩
          simp only [ogMk, Act.put, List.setIfInBounds_toArray, List.set_cons_zero, List.set_cons_succ, Nat.zero_add, Nat.reduceAdd]
          simp [execOp, Act.eval, go_sem, h3]
        · refine OgStep.pure ?_ ?_
          · rfl
          intro u W hS hp
          have h2 : u 2 = .int .i64 p := hp ⟨2, .data⟩ (by simp) rfl
          have h4 : u 4 = .int .i64 (YL : Int) := hp ⟨4, .data⟩ (by simp) rfl
          have R := HTM.out
          have R2 : ¬ YL = 0 := by omega
          refine ⟨.int .i64 (q : Int), ?_, rfl⟩
          simp only [ogMk, Act.put, List.setIfInBounds_toArray, List.set_cons_zero, List.set_cons_succ, Nat.zero_add, Nat.reduceAdd]
          simp [execOp, Act.eval, go_sem, h2, h4, R, R2]
        · refine OgStep.pure ?_ ?_
          · rfl
          intro u W hS hp
          refine ⟨.int .u8 p, ?_, rfl⟩
          simp only [ogMk, Act.put, List.setIfInBounds_toArray, List.set_cons_zero, List.set_cons_succ, Nat.zero_add, Nat.reduceAdd]
          simp [execOp, Act.eval, go_sem]
        · refine OgStep.calls ?_ ?_
          · rfl
          intro u W hS hp
          have h6 : u 6 = .int .u8 p := hp ⟨6, .data⟩ (by simp) rfl
          refine ⟨18, #[.int .u8 p], ?_, calls_fx' (HN.out W) rfl⟩
          simp only [ogMk, Act.put, List.setIfInBounds_toArray, List.set_cons_zero, List.set_cons_succ, Nat.zero_add, Nat.reduceAdd]
          simp [execOp, Act.eval, go_sem, h6]
        · refine OgStep.pure ?_ ?_
          · rfl
          intro u W hS hp
          have h0 : u 0 = .slice (some ⟨g, 0, none⟩) YL cp := hp ⟨0, .data⟩ (by simp) rfl
          have h5 : u 5 = .int .i64 (q : Int) := hp ⟨5, .data⟩ (by simp) rfl
          have R := hqi
          refine ⟨.pointer (some ⟨g, q * 8, none⟩), ?_, rfl⟩
          simp only [ogMk, Act.put, List.setIfInBounds_toArray, List.set_cons_zero, List.set_cons_succ, Nat.zero_add, Nat.reduceAdd]
          simp [execOp, Act.eval, go_sem, h0, h5, R]
        · refine OgStep.pure ?_ ?_
          · rfl
          intro u W hS hp
          have h8 : u 8 = .pointer (some ⟨g, q * 8, none⟩) := hp ⟨8, .data⟩ (by simp) rfl
          refine ⟨.pointer (some ⟨g, q * 8, none⟩), ?_, rfl⟩
          simp only [ogMk, Act.put, List.setIfInBounds_toArray, List.set_cons_zero, List.set_cons_succ, Nat.zero_add, Nat.reduceAdd]
          simp [execOp, Act.eval, go_sem, h8]
      · intro u W hS hF
        have e0 : u 0 = .slice (some ⟨g, 0, none⟩) YL cp := hF 0 (by decide)
        have e1 : u 1 = .int .u8 p := hF 1 (by decide)
        have e2 : u 2 = .int .i64 p := hF 2 (by decide)
        have e3 : u 3 = .slice (some ⟨g, 0, none⟩) YL cp := hF 3 (by decide)
        have e4 : u 4 = .int .i64 (YL : Int) := hF 4 (by decide)
        have e5 : u 5 = .int .i64 (q : Int) := hF 5 (by decide)
        have e6 : u 6 = .int .u8 p := hF 6 (by decide)
        have e7 : u 7 = .int .u32 na := hF 7 (by decide)
        have e8 : u 8 = .pointer (some ⟨g, q * 8, none⟩) := hF 8 (by decide)
        have e9 : u 9 = .pointer (some ⟨g, q * 8, none⟩) := hF 9 (by decide)
        simp only [ogMk, Act.put, List.setIfInBounds_toArray, List.set_cons_zero, List.set_cons_succ, Nat.zero_add, Nat.reduceAdd]
        rw [e0, e1, e2, e3, e4, e5, e6, e7, e8, e9]
        clear e0 e1 e2 e3 e4 e5 e6 e7 e8 e9 hF
        obtain ⟨s0, f0⟩ := own_cell (own_keep HOW.out hS) HX.out
        have BW := Lib.hid (B4.out.trans (hS.mono B4.out.size))
        have OW := Lib.hid (own_keep HOW.out hS)
        clear hS HN HTM HWP
        go_wp2_with fail
        go_meet
        exact ⟨_, ys.set q ⟨na, x.T, x.m0, x.m1, x.m2, x.m3, x.m4, x.m5⟩, cp, by rw [List.length_set, HYL.out], by rw [List.length_set, HYL.out]; exact hcp, Lib.hid ⟨hs_set OW.out HOK.out HYL.out hy48 HX.out hnn.1 hnn.2, BW.out.setCell HGB.out _⟩⟩
    · go_wp2_with fail
      go_meet
      exact ⟨A2, ys, c2, by rw [HYL.out], by rw [HYL.out]; exact hc2, Lib.hid ⟨R3.out, B3.out⟩⟩
  case rest =>
    obtain ⟨A', xs', c', rfl, hxc, HH⟩ := hcut
    obtain ⟨N1, hN1⟩ : ∃ N1, xs'.length = N1 := ⟨_, rfl⟩
    have BQ := Lib.hid HH.out.2
    obtain ⟨ps, hps⟩ : ∃ ps : List Pt, ps = [⟨A0, hs0, cap0⟩, ⟨A', xs', c'⟩] := ⟨_, rfl⟩
    have HPM := Lib.hid (pm_two wc ⟨A0, hs0, cap0⟩ ⟨A', xs', c'⟩ 24 (R0.out.below HH.out.2) HH.out.1)
    dsimp only at HPM
    rw [HL0.out, hN1, ← hps] at HPM
    have HPC := Lib.hid (show ∀ (k : Nat) (p : Pt), ps[k]? = some p → p.xs.length ≤ p.c ∧ p.xs.length ≤ 140737488355328 from fun k p hp => by
      have hx47 := HH.out.1.1
      rw [hps] at hp
      match k, hp with
      | 0, hp => simp at hp; subst hp; exact ⟨by show hs0.length ≤ cap0; rw [HL0.out]; exact hcap0, by show hs0.length ≤ _; rw [HL0.out]; exact hL47⟩
      | 1, hp => simp at hp; subst hp; exact ⟨hxc, hx47⟩
      | k + 2, hp => simp at hp)
    have HP2 := Lib.hid (show ∀ k, k < 2 → ∃ p, ps[k]? = some p from fun k hk => ⟨_, List.getElem?_eq_getElem (by rw [hps]; exact hk)⟩)
    rw [hN1] at hxc ⊢
    have BA : Below wc.heap.size wc (wc.alloc (.cells #[.slice A0 L0 cap0, .slice A' N1 c'] 24)) := (Below.refl _ wc).alloc (Nat.le_refl _) _
    have B9 := Lib.hid (BQ.out.trans (BA.mono BQ.out.size))
    have hgb : wc.heap.size < (wc.alloc (.cells #[.slice A0 L0 cap0, .slice A' N1 c'] 24)).heap.size := by simp
    clear hps HH HGD HN BA BQ R3 B3 R0 hN1
    go_wp2_with fail
    generalize hW9 : wc.alloc (.cells #[.slice A0 L0 cap0, .slice A' N1 c'] 24) = W9 at *
    generalize wc.heap.size = gb at *
    clear hW9
    go_loopw [39] (fun i wr => ∃ k : Nat, i = .int .i64 k ∧ k ≤ 2 ∧ Hid (Below W9.heap.size W9 wr)) (fun i _ => 2 - (intOf i).toNat)
    case atStart => exact ⟨0, rfl, by omega, Below.refl _ _⟩
    case round =>
      obtain ⟨k, rfl, hk, HH⟩ := hrel
      obtain ⟨wo, rfl⟩ : ∃ wo : World, wo = wr := ⟨_, rfl⟩
      by_cases hlt : k < 2
      · obtain ⟨⟨pA, pxs, pc⟩, hp⟩ := HP2.out k hlt
        obtain ⟨k0, kH⟩ := HPM.out.2 k _ hp
        obtain ⟨hpc, hp47⟩ := HPC.out k _ hp
        dsimp only at k0 kH hpc hp47
        have k1 : wo.cell? ⟨gb, k, none⟩ = some (.slice pA pxs.length pc) := by rw [HH.out.cell (p := ⟨gb, k, none⟩) hgb]; exact k0
        have RO := Lib.hid (kH.below HH.out)
        have HRR := Lib.hid fun W (hW : Hs W pA pxs) => right15_any pA pxs pc W hW hpc
        obtain ⟨n, hn⟩ : ∃ n, pxs.length = n := ⟨_, rfl⟩
        have HNN := Lib.hid hn
        rw [hn] at k1 hpc hp47 HRR
        clear hp k0 kH hn
        have hk2 : (k : Int) < 2 := by omega
        by_cases h48 : n ≤ 48
        · have HRB := Lib.hid (show rightB pxs = rPre pxs n by simp [rightB, HNN.out, h48])
          have h48' : (n : Int) ≤ 48 := by omega
          go_wp2_with fail
          go_loopw [10, 48] (fun b i wr => ∃ j : Nat, i = .int .i64 j ∧ j ≤ n ∧ b = .bool (rPre pxs j) ∧ Hid (Below wo.heap.size wo wr)) (fun _ i _ => n - (intOf i).toNat)
          case atStart => exact ⟨0, rfl, by omega, rfl, Below.refl _ _⟩
          case round =>
            obtain ⟨j, rfl, hj, rfl, HI⟩ := hrel
            by_cases hjn : j < n
            · obtain ⟨z, hz⟩ : ∃ z, pxs[j]? = some z := ⟨_, List.getElem?_eq_getElem (by rw [HNN.out]; exact hjn)⟩
              obtain ⟨y, rfl⟩ := hs_some RO.out (by rw [HNN.out]; omega)
              have R1 := Lib.hid (RO.out.below HI.out)
              have hok := RO.out.ok hz
              have hat := R1.out.at hz
              have HS := Lib.hid (rPre_succ pxs j)
              have HM := Lib.hid fun W => may14_any z.T W hok.2.2
              have X0 : 0 ≤ z.a := hok.1
              have X1 : z.a < 4294967296 := hok.2.1
              generalize rPre pxs j = D at *
              cases D
              · obtain ⟨xa, xT, x0, x1, x2, x3, x4, x5⟩ := z
                clear hz hok
                as_aux_lemma =>
                go_wp2_with (refine at_load33 _ rfl rfl _ _ rfl hat ?_)
                go_quiet (fail)
                go_wp2_with fail
                go_roundw
                case rel => exact ⟨j + 1, by go_num, by omega, by rw [HS.out]; rfl, bdrewN (HI.out.alloc HI.out.size _) _⟩
                case measure => simp [intOf]; omega
              · cases hY : mayB z.T
                · rw [hY] at HM
                  have HO := Lib.hid (show rOk pxs j = false by simp [rOk, hz, hY])
                  obtain ⟨xa, xT, x0, x1, x2, x3, x4, x5⟩ := z
                  clear hz hok hY
                  as_aux_lemma =>
                  go_wp2_with (refine at_load33 _ rfl rfl _ _ rfl hat ?_)
                  go_quiet ((go_at_call 14; exact Calls.quiet_of_same (HM.out _)))
                  go_wp2_with fail
                  go_roundw
                  case rel => exact ⟨j + 1, by go_num, by omega, by rw [HS.out, HO.out]; rfl, bdrewN (HI.out.alloc HI.out.size _) _⟩
                  case measure => simp [intOf]; omega
                · rw [hY] at HM
                  rcases j with _ | i
                  · have HO := Lib.hid (show rOk pxs 0 = true by simp [rOk, hz, hY])
                    obtain ⟨xa, xT, x0, x1, x2, x3, x4, x5⟩ := z
                    clear hz hok hY
                    as_aux_lemma =>
                    go_wp2_with (refine at_load33 _ rfl rfl _ _ rfl hat ?_)
                    go_quiet ((go_at_call 14; exact Calls.quiet_of_same (HM.out _)))
                    go_wp2_with fail
                    go_roundw
                    case rel => exact ⟨1, by go_num, by omega, by rw [HS.out, HO.out]; rfl, bdrewN (HI.out.alloc HI.out.size _) _⟩
                    case measure => simp [intOf]; omega
                  · obtain ⟨zp, hzp⟩ : ∃ zp, pxs[i]? = some zp := ⟨_, List.getElem?_eq_getElem (by rw [HNN.out]; omega)⟩
                    have c0 : wr.cell? (y.add (i * 8)) = some (.int .u32 zp.a) := by
                      have := R1.out.at hzp 0 _ rfl
                      rwa [Addr.add_add] at this
                    have hO : rOk pxs (i + 1) = decide (zp.a < z.a) := by simp [rOk, hz, hY, hzp]
                    have hi : IntKind.i64.wrap (i : Int) = (i : Int) := i64_nat (by omega)
                    have hiL : (i : Int) < n := by omega
                    have hyb := World.block_lt_of_cell? _ _ c0
                    have hyn : (y.add (i * 8)).block ≠ wr.heap.size := by omega
                    have hi0 : ((i : Int) + 1 == 0) = false := by simp; omega
                    obtain ⟨D, hD⟩ : ∃ D, decide (zp.a < z.a) = D := ⟨_, rfl⟩
                    have HO := Lib.hid (show rOk pxs (i + 1) = D by rw [hO]; exact hD)
                    obtain ⟨xa, xT, x0, x1, x2, x3, x4, x5⟩ := z
                    generalize zp.a = za at *
                    dsimp only at hD
                    clear hz hzp hok hY hO
                    as_aux_lemma =>
                    go_wp2_with (refine at_load33 _ rfl rfl _ _ rfl hat ?_)
                    go_quiet ((go_at_call 14; exact Calls.quiet_of_same (HM.out _)))
                    clear hD
                    go_wp2_with fail
                    go_roundw
                    case rel => exact ⟨i + 2, by go_num, by omega, by rw [HS.out, HO.out]; rfl, bdrewN (HI.out.alloc HI.out.size _) _⟩
                    case measure => simp [intOf]; omega
            · obtain rfl : j = n := by omega
              have B1 := Lib.hid (HH.out.trans (HI.out.mono HH.out.size))
              rw [HRB.out] at HRR
              generalize rPre pxs j = D at *
              as_aux_lemma =>
              go_wp2_with fail
              refine (HRR.out _ (RO.out.below HI.out)).mono ?_
              rintro e w5 ⟨rfl, hb⟩
              have B5 := Lib.hid (B1.out.trans (hb.mono B1.out.size))
              clear hb
              go_wp2_with fail
              go_roundw
              case rel => exact ⟨k + 1, by go_num, by omega, B5.out⟩
              case measure => simp [intOf]; omega
        · have HRB := Lib.hid (show rightB pxs = false by simp [rightB, HNN.out]; intro h; omega)
          have h48' : ¬ (n : Int) ≤ 48 := by omega
          go_wp2_with fail
          go_loopw [10, 48] (fun b i wr => ∃ j : Nat, i = .int .i64 j ∧ j ≤ n ∧ b = .bool false ∧ Hid (Below wo.heap.size wo wr)) (fun _ i _ => n - (intOf i).toNat)
          case atStart => exact ⟨0, rfl, by omega, rfl, Below.refl _ _⟩
          case round =>
            obtain ⟨j, rfl, hj, rfl, HI⟩ := hrel
            by_cases hjn : j < n
            · obtain ⟨z, hz⟩ : ∃ z, pxs[j]? = some z := ⟨_, List.getElem?_eq_getElem (by rw [HNN.out]; exact hjn)⟩
              obtain ⟨y, rfl⟩ := hs_some RO.out (by rw [HNN.out]; omega)
              have R1 := Lib.hid (RO.out.below HI.out)
              have hat := R1.out.at hz
              obtain ⟨xa, xT, x0, x1, x2, x3, x4, x5⟩ := z
              clear hz
              as_aux_lemma =>
              go_wp2_with (refine at_load33 _ rfl rfl _ _ rfl hat ?_)
              go_quiet (fail)
              go_wp2_with fail
              go_roundw
              case rel => exact ⟨j + 1, by go_num, by omega, rfl, bdrewN (HI.out.alloc HI.out.size _) _⟩
              case measure => simp [intOf]; omega
            · obtain rfl : j = n := by omega
              have B1 := Lib.hid (HH.out.trans (HI.out.mono HH.out.size))
              rw [HRB.out] at HRR
              as_aux_lemma =>
              go_wp2_with fail
              refine (HRR.out _ (RO.out.below HI.out)).mono ?_
              rintro e w5 ⟨rfl, hb⟩
              have B5 := Lib.hid (B1.out.trans (hb.mono B1.out.size))
              clear hb
              go_wp2_with fail
              go_roundw
              case rel => exact ⟨k + 1, by go_num, by omega, B5.out⟩
              case measure => simp [intOf]; omega
      · obtain rfl : k = 2 := by omega
        go_wp2_with fail
        go_ret
        exact ⟨rfl, B9.out.trans (HH.out.mono B9.out.size)⟩
end Go.Proofs.Ytafmcnnbeoffdaa
