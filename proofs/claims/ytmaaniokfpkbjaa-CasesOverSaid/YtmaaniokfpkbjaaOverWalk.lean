/-
  CasesOver's walk: a case that is over is not open again: it is raised anew, behind all others. Conditions: what comes in lies in memory, and numbers have their bits.
-/
import Derived.BigGuard
import Derived.Test.YtmaaniokfpkbjaaCho
set_option linter.unusedSimpArgs false
set_option linter.unusedVariables false
namespace Go.Proofs.Ytmaaniokfpkbjaa
open Go.RowKit

theorem over_1 {ss : List Ca} {nw a : Int} {i : Nat} (hv : Vn (ss, nw)) (hf : fnd a ss = some i) : ∃ l, stO (fun _ => true) 4 nw a ss = (l, 0) ∧ l.length = ss.length ∧ fnd a l = none := by
  obtain ⟨x, hx, hxa, ho⟩ := fnd_at hf
  have hi := (List.getElem?_eq_some_iff.1 hx).1
  refine ⟨mvA ss i 4 nw, by unfold stO; rw [hf]; rfl, mvA_len _ _ _ _, fnd_none fun y hy hoy e => ?_⟩
  have hxe : x = ss[i] := (List.getElem?_eq_some_iff.1 hx).2.symm
  unfold mvA at hy
  obtain ⟨j, hj, rfl⟩ := List.mem_iff_getElem.1 hy
  rw [List.length_set] at hj
  rw [List.getElem_set] at hoy e
  by_cases hij : i = j
  · rw [if_pos hij] at hoy
    have : (mv 4 nw (ss.getD i zc)).g = 4 := by unfold mv; split <;> rfl
    rw [op_iff, this] at hoy
    omega
  · rw [if_neg hij] at hoy e
    have hd := List.pairwise_iff_getElem.1 hv.v.r.dis
    dsimp only at hd
    rcases Nat.lt_or_gt_of_ne hij with h | h
    · exact hd i j hi hj h (by rw [← hxe]; exact ho) hoy (by rw [e, ← hxe]; exact hxa)
    · exact hd j i hj hi h hoy (by rw [← hxe]; exact ho) (by rw [e, ← hxe]; exact hxa.symm)
theorem fnd_last {zs ss : List Ca} {a : Int} {x : Ca} (hs : zs.Sublist ss) (hn : fnd a ss = none) (hx : x.a = a) (ho : opB x = true) : fnd a (zs ++ [x]) = some zs.length := by
  have h0 : fnd a zs = none := fnd_none fun y hy hoy => fnd_no hn y (hs.subset hy) hoy
  unfold fnd at *
  rw [List.findIdx?_append, h0]
  simp [List.findIdx?_cons, fm, hx, ho]
theorem over_2 {ss : List Ca} {q nwt a : Int} (hv : Vn (ss, nwt)) (hn : nwt ≤ 1099511627776) (hf : fnd a ss = none) : rsO q nwt a ss = ([], 8) ∨ (rsO q nwt a ss = ([], 4) ∧ ss.length = 16) ∨ ∃ zs, rsO q nwt a ss = (zs ++ [⟨a, nwt, 0, 0⟩], 0) ∧ zs.length + 1 = min (ss.length + 1) 16 ∧ fnd a (zs ++ [⟨a, nwt, 0, 0⟩]) = some zs.length := by
  have hfew := hv.v.r.few
  dsimp only at hfew
  have e : nw a nwt = ⟨a, nwt, 0, 0⟩ := by unfold nw; rw [cl_in hv.n0 hn]
  have ho : opB (⟨a, nwt, 0, 0⟩ : Ca) = true := rfl
  unfold rsO
  rw [hf]
  unfold rs1
  rw [e]
  dsimp only
  split
  · exact .inl rfl
  · split
    · rename_i h16
      exact .inr (.inr ⟨ss, rfl, by omega, fnd_last (List.Sublist.refl _) hf rfl ho⟩)
    · rename_i h16
      cases hs : spO q nwt ss with
      | none => exact .inr (.inl ⟨rfl, by omega⟩)
      | some i =>
        obtain ⟨z, -, hlt, -, -⟩ := spk_at hs
        exact .inr (.inr ⟨del ss i, rfl, by rw [del_len hlt]; omega, fnd_last (del_sub _ _) hf rfl ho⟩)

set_option maxRecDepth 100000 in
set_option maxHeartbeats 8000000 in
theorem casesOver_walk (x : Hc) (B : Option Addr) (ys : List Ac) (cy : Nat) (av : Int) (w : World) (hx : x.Ok) (hB : Rw eC w B ys) (hcy : ys.length ≤ cy) (hok : ∀ y ∈ ys, y.Ok) (ha0 : 0 ≤ av) (ha1 : av < 256) :
    Calls Try.prog 9 #[hv x, .slice B ys.length cy, .int .u8 av] w fun e w' => e = .returned (.bool true) ∧ Below w.heap.size w w' := by
  have B0 := Lib.hid (show Below w.heap.size w (w.alloc (Hcx x)) from (Below.refl _ w).alloc (Nat.le_refl _) _)
  have M0 := Lib.hid (show Hm (w.alloc (Hcx x)) w.heap.size x from hc_box w x)
  have RB0 := Lib.hid (hB.below B0.out)
  have HCH := Lib.hid fun W => choice_any x W hx
  have HSO := Lib.hid fun W (hR : Rw eC W B ys) => some_any (ch x) B ys cy W hR hok hcy
  obtain ⟨vn, v3⟩ := smO_ok (ch x).i (ch x).h (ys.take 80) (by rw [List.length_take]; omega)
  have v4 : (smO (ch x).i (ch x).h (ys.take 80)).2 ≤ 720 := by rw [List.length_take] at v3; omega
  generalize smO (ch x).i (ch x).h (ys.take 80) = s at *
  generalize ch x = C at *
  generalize ys.length = Ly at *
  have hn0 := vn.n0
  have hss := vn.v.r.few
  clear hB hok v3
  obtain ⟨ss, nw⟩ := s
  dsimp only at *
  have HNR := Lib.hid fun W => near_any av W ha0 ha1
  generalize nr av = b at *
  unfold hv Hcx cfv at *
  go_enter Try.func9, Try.ntmps9
  go_wp2_with fail
  generalize w.alloc (.cells #[.int .u8 x.a, .int .u8 x.b, .int .u8 x.c, .int .u8 x.d, .int .u8 x.e, .int .u8 x.f, .int .u8 x.g, .int .u8 x.h, .int .u8 x.i] 23) = W0 at *
  refine (awake_any W0).mono ?_
  rintro e W1 ⟨rfl, hb⟩
  have B1 := Lib.hid (B0.out.trans (hb.mono B0.out.size))
  have M1 := Lib.hid (M0.out.below hb)
  have RB1 := Lib.hid (RB0.out.below hb)
  clear hb M0 RB0
  go_wp2_with (refine at_load23 (.tmp 3) rfl rfl _ x rfl M1.out ?_)
  refine (HCH.out W1).mono ?_
  rintro e W2 ⟨rfl, hb⟩
  have B2a := Lib.hid (B1.out.trans (hb.mono B1.out.size))
  have RB2a := Lib.hid (RB1.out.below hb)
  have C2 := Lib.hid (cm_box W2 C)
  have B2 := Lib.hid (B2a.out.alloc B2a.out.size (Cfx C))
  have RB2 := Lib.hid (RB2a.out.below ((Below.refl _ W2).alloc (Nat.le_refl _) (Cfx C)))
  clear hb RB1 M1 B2a RB2a
  go_upto_region 4 with fail
  change Code.wp _ _ _ _ (W2.alloc (Cfx C))
  generalize W2.alloc (Cfx C) = W3 at *
  obtain ⟨bc, hbc⟩ : ∃ bc, W2.heap.size = bc := ⟨_, rfl⟩
  rw [hbc] at C2 ⊢
  clear hbc
  go_wp2_with (refine at_load27 (.tmp 7) rfl rfl _ C rfl C2.out.at ?_)
  refine (HSO.out W3 RB2.out).mono ?_
  rintro e W4 ⟨As, cs, rfl, hcs, hRs, hb⟩
  dsimp only at hcs hRs
  have B4 := Lib.hid (B2.out.trans (hb.mono B2.out.size))
  have C4 := Lib.hid (C2.out.below hb)
  have RS4 := Lib.hid hRs
  have HCS := Lib.hid hcs
  clear hb hRs hcs B2 C2
  dsimp only
  obtain ⟨L, hL⟩ : ∃ n, ss.length = n := ⟨_, rfl⟩
  have HL := Lib.hid hL
  have HF1 := Lib.hid fun W hR => find_any b As ss cs W hR
  have HCA := Lib.hid fun W hR => cancel_any nw b As ss cs W hR HCS.out (by omega)
  have HRA := Lib.hid fun W hR => raise_any C nw b As ss cs W hR HCS.out (by omega)
  rw [hL] at hss HF1 HCA HRA HCS ⊢
  go_wp2_with fail
  refine (HNR.out _).mono ?_
  rintro e w3 ⟨rfl, rfl⟩
  cases hof : fnd b ss with
  | some i =>
    obtain ⟨l, e1, e2, e3⟩ := over_1 vn hof
    have HF2 := Lib.hid fun A c W hR => find_any b A l c W hR
    have HC2 := Lib.hid fun A c W hR hc => cancel_any nw b A l c W hR hc (by omega)
    rw [hof] at HF1
    rw [e1] at HCA
    rw [e3] at HF2
    rw [show stO (fun _ => true) 4 nw b l = ([], 7) by unfold stO; rw [e3]] at HC2
    dsimp only [fnI] at HF1 HF2
    rw [hL] at e2
    have hi0 : (0 : Int) ≤ i := by omega
    clear e1 e3 vn hof hL HRA
    go_wp2_with fail
    refine (HF1.out _ RS4.out).mono ?_
    rintro e W5 ⟨rfl, hb⟩
    have B5 := Lib.hid (B4.out.trans (hb.mono B4.out.size))
    have R5 := Lib.hid (RS4.out.below hb)
    clear hb
    go_wp2_with fail
    refine (HCA.out _ R5.out).mono ?_
    rintro e W6 ⟨A6, c6, rfl, hc6, hR6, hb⟩
    try dsimp only at hc6 hR6
    have B6 := Lib.hid (B5.out.trans (hb.mono B5.out.size))
    have R6 := Lib.hid hR6
    have K6 := Lib.hid hc6
    clear hb hR6 hc6
    try dsimp only
    rw [e2] at HF2 HC2 K6 ⊢
    clear e2
    go_wp2_with fail
    refine (HC2.out A6 c6 W6 R6.out K6.out).mono ?_
    rintro e W7 ⟨A7, c7, rfl, -, -, hb⟩
    have B7 := Lib.hid (B6.out.trans (hb.mono B6.out.size))
    have R7 := Lib.hid (R6.out.below hb)
    clear hb
    try dsimp only [List.length_nil]
    go_wp2_with fail
    refine (HF2.out A6 c6 W7 R7.out).mono ?_
    rintro e W8 ⟨rfl, hb⟩
    have B8 := Lib.hid (B7.out.trans (hb.mono B7.out.size))
    clear hb
    go_wp2_with fail
    go_ret
    exact ⟨rfl, B8.out⟩
  | none =>
    have h3 := over_2 (q := C.i) vn (show nw ≤ 1099511627776 by omega) hof
    rw [hof] at HF1
    dsimp only [fnI] at HF1
    clear hof vn HCA
    rw [hL] at h3
    clear hL
    go_wp2_with fail
    refine (HF1.out _ RS4.out).mono ?_
    rintro e W5 ⟨rfl, hb⟩
    have B5 := Lib.hid (B4.out.trans (hb.mono B4.out.size))
    have R5 := Lib.hid (RS4.out.below hb)
    have C5 := Lib.hid (C4.out.below hb)
    clear hb
    rcases h3 with e1 | ⟨e1, e2⟩ | ⟨zs, e1, e2, e3⟩
    · rw [e1] at HRA
      clear e1
      go_wp2_with (refine at_load27 (.tmp 7) rfl rfl _ C rfl C5.out.at ?_)
      refine (HRA.out _ R5.out).mono ?_
      rintro e W6 ⟨A6, c6, rfl, -, -, hb⟩
      have B6 := Lib.hid (B5.out.trans (hb.mono B5.out.size))
      clear hb
      try dsimp only [List.length_nil]
      go_wp2_with fail
      go_ret
      exact ⟨rfl, B6.out⟩
    · rw [e1] at HRA
      subst e2
      clear e1
      go_wp2_with (refine at_load27 (.tmp 7) rfl rfl _ C rfl C5.out.at ?_)
      refine (HRA.out _ R5.out).mono ?_
      rintro e W6 ⟨A6, c6, rfl, -, -, hb⟩
      have B6 := Lib.hid (B5.out.trans (hb.mono B5.out.size))
      clear hb
      try dsimp only [List.length_nil]
      go_wp2_with fail
      go_ret
      exact ⟨rfl, B6.out⟩
    · rw [e1] at HRA
      have hzl : (zs ++ [(⟨b, nw, 0, 0⟩ : Ca)]).length = zs.length + 1 := by simp
      have hat : (zs ++ [(⟨b, nw, 0, 0⟩ : Ca)])[zs.length]? = some ⟨b, nw, 0, 0⟩ := by simp
      obtain ⟨ts, hts⟩ : ∃ t, zs ++ [(⟨b, nw, 0, 0⟩ : Ca)] = t := ⟨_, rfl⟩
      rw [hts] at HRA e3 hzl hat
      have HF2 := Lib.hid fun A c W hR => find_any b A ts c W hR
      rw [e3] at HF2
      dsimp only [fnI] at HF2
      obtain ⟨Z, hZ⟩ : ∃ n, zs.length = n := ⟨_, rfl⟩
      rw [hZ] at hzl hat e2 HF2
      obtain ⟨L2, hL2⟩ : ∃ n, Z + 1 = n := ⟨_, rfl⟩
      rw [hL2] at hzl e2
      have hz1 : (L2 : Int) - 1 = Z := by omega
      have hmin : min ((L : Int) + 1) 16 = L2 := by omega
      have hZL : Z < L2 := by omega
      have hL216 : L2 ≤ 16 := by omega
      have HAT := Lib.hid hat
      have e6 := Lib.hid (show eqr ⟨b, nw, 0, 0⟩ ⟨b, nw, 0, 0⟩ = true by simp [eqr])
      clear e1 e2 e3 hts hZ hL2 hat
      go_wp2_with (refine at_load27 (.tmp 7) rfl rfl _ C rfl C5.out.at ?_)
      refine (HRA.out _ R5.out).mono ?_
      rintro e W6 ⟨A6, c6, rfl, hc6, hR6, hb⟩
      try dsimp only at hc6 hR6
      have B6 := Lib.hid (B5.out.trans (hb.mono B5.out.size))
      have R6 := Lib.hid hR6
      clear hb hR6
      try dsimp only
      have HZL := Lib.hid hzl
      rw [hzl] at HF2 hc6 ⊢
      clear hzl
      have hZc : Z < c6 := by omega
      go_wp2_with fail
      refine (HF2.out A6 c6 W6 R6.out).mono ?_
      rintro e W7 ⟨rfl, hb⟩
      have B7 := Lib.hid (B6.out.trans (hb.mono B6.out.size))
      have R7 := Lib.hid (R6.out.below hb)
      clear hb
      obtain ⟨y, rfl⟩ := rw_some R7.out (by rw [HZL.out]; omega)
      obtain ⟨k0, -, -, -⟩ := rw_c0 R7.out HAT.out
      obtain ⟨k1, k2, k3⟩ := rw_f R7.out HAT.out
      dsimp only at k0 k1 k2 k3
      go_wp2_with (refine at_eql37g (.tmp 100) (.tmp 103) ⟨b, nw, 0, 0⟩ ⟨b, nw, 0, 0⟩ ?_ ?_ ?_ ?_ ?_; rotate_left; (with_reducible rfl); rfl; rfl; rotate_left; kernel_rfl; rw [e6.out])
      go_ret
      exact ⟨rfl, B7.out⟩
end Go.Proofs.Ytmaaniokfpkbjaa
