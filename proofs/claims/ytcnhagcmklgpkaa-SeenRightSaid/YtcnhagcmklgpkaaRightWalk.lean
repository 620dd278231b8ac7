/-
  SeenRight's walk: rows are right, if the document says so. Conditions: the deeds, and the row, lie in memory.
-/
import Derived.Test.YtcnhagcmklgpkaaRlw
import Derived.Test.YtcnhagcmklgpkaaApartWalk
set_option linter.unusedSimpArgs false
set_option linter.unusedVariables false
namespace Go.Proofs.Ytcnhagcmklgpkaa
open Go.RowKit

/-- A row of sightings of which one is other. -/
theorem set_row {W : World} {g : Nat} {ss : List Sg} {m : Nat} {s : Sg} (h : Rw eS W (some ⟨g, 0, none⟩) ss) (hm : m < ss.length) : Rw eS (W.setCells g (m * 8) (sl s)) (some ⟨g, 0, none⟩) (ss.set m s) := by
  have hat : ∀ q x, ss[q]? = some x → ∀ j v, (sl x)[j]? = some v → W.cell? ⟨g, q * 8 + j, none⟩ = some v := fun q x hq j v hv => by
    have := h.at hq j v hv
    rwa [Addr.add_mid, Addr.add_mid, Nat.zero_add] at this
  have hth : ∀ j, j < 8 → (W.cell? ⟨g, m * 8 + j, none⟩).isSome = true := fun j hj => by
    have hx := List.getElem?_eq_getElem hm
    have hv := List.getElem?_eq_getElem (l := sl ss[m]) (i := j) hj
    rw [hat m _ hx j _ hv]
    rfl
  refine ⟨by rw [List.length_set]; exact h.1, fun q x hq => ⟨_, rfl, fun j v hv => ?_⟩⟩
  show (W.setCells g (m * 8) (sl s)).cell? ((⟨g, 0, none⟩ : Addr).add (q * 8 + j)) = some v
  rw [Addr.add_mid, Nat.zero_add]
  have hj : j < 8 := by have := (List.getElem?_eq_some_iff.1 hv).1; exact this
  by_cases e : q = m
  · subst e
    rw [List.getElem?_set_self hm] at hq
    obtain rfl : s = x := Option.some.inj hq
    have h1 := World.cell?_setCells_in g (sl s) (q * 8) W (fun i hi => hth i hi) j hj
    have h2 := List.getElem?_eq_getElem (l := sl s) (i := j) hj
    exact h1.trans (h2.symm.trans hv)
  · rw [List.getElem?_set_ne (Ne.symm e)] at hq
    rw [World.cell?_setCells_out g (sl s) (m * 8) W _ (fun _ _ => by
      show q * 8 + j < m * 8 ∨ m * 8 + 8 ≤ q * 8 + j
      omega)]
    exact hat q x hq j v hv
/-- A row in another block stands. -/
theorem rw_apart {α : Type} {E : El α} {W : World} {A : Option Addr} {xs : List α} {g o : Nat} {vs : List Value} (h : Rw E W A xs) (hne : 0 < xs.length → ∀ p, A = some p → p.block ≠ g) : Rw E (W.setCells g o vs) A xs := by
  rcases Nat.eq_zero_or_pos xs.length with e | e
  · rw [List.eq_nil_of_length_eq_zero e]; exact Rw.nil _ _
  · refine h.cells_keep fun y a v hy ha hc => ?_
    rw [World.cell?_setCells_out g vs o W a (fun hb _ => absurd (ha ▸ hb) (hne e y hy))]
    exact hc
theorem below_cells {B : Nat} {g : Nat} (hg : B ≤ g) : ∀ (vs : List Value) (o : Nat) (w0 w : World), Below B w0 w → Below B w0 (w.setCells g o vs)
  | [], _, _, _, h => h
  | v :: r, o, w0, w, h => below_cells hg r (o + 1) w0 _ (h.setCell hg v)
theorem run_idx25 (y : Addr) (n c g : Nat) (hg : g < n) (W : World) : (Instr.indexAt 25 (.slice (some y) n c) (.int .i64 (g : Int))).run Try.prog W = .ok (.pointer (some (y.add (g * 2)))) W := by
  have h1 : (g : Int) < n := by omega
  simp only [Instr.indexAt, asIntOf, Sem.run_bind, Sem.run_pure, Result.andThen_ok, run_underlying Try.underlying25, size53']
  rw [if_pos ⟨by omega, h1⟩]
  simp only [Sem.run_bind, Sem.run_pure, Result.andThen_ok, size53', Int.toNat_natCast]
/-- An older row stands where a newer one's cell is set. -/
theorem K6_stored {w5 W2 : World} {A2 : Option Addr} {ys : List Kp} {kns : List Kn} {g o : Nat} {u : Value} (hp : kns.map Kn.p = ys) (hk : Ke w5 A2 kns) (hb : Below w5.heap.size w5 W2) (hg : w5.heap.size ≤ g) : Ks (W2.setCell ⟨g, o, none⟩ u) A2 ys :=
  ⟨kns, hp, hk.below (hb.setCell hg u)⟩
/-- A row of addresses of which one has other sightings, in a row of the call's own; one of these is turned. -/
theorem turn_row {W : World} {g1 g2 c2 : Nat} {ys : List Kn} {k m : Nat} {y : Kn} {ss : List Sg} {s : Sg} (hr : Rw eK W (some ⟨g1, 0, none⟩) (ys.set k ⟨y.a, some ⟨g2, 0, none⟩, c2, ss⟩)) (hy : ys[k]? = some y) (h12 : g1 ≠ g2)
    (hin : ∀ z ∈ ys, z.In W ∧ (0 < z.ss.length → ∀ p, z.P = some p → p.block ≠ g2)) (hs : Rw eS W (some ⟨g2, 0, none⟩) ss) (hc2 : ss.length ≤ c2) (hm2 : c2 ≤ maxLen) (hm : m < ss.length) :
    ∃ ps, ps.length = ys.length ∧ Ks (W.setCells g2 (m * 8) (sl s)) (some ⟨g1, 0, none⟩) ps := by
  refine ⟨(ys.set k ⟨y.a, some ⟨g2, 0, none⟩, c2, ss.set m s⟩).map Kn.p, by rw [List.length_map, List.length_set], _, rfl, ?_, fun z hz => ?_⟩
  · have h1 : Rw eK (W.setCells g2 (m * 8) (sl s)) (some ⟨g1, 0, none⟩) (ys.set k ⟨y.a, some ⟨g2, 0, none⟩, c2, ss⟩) := rw_apart hr fun _ p hp => by injection hp with hp; rw [← hp]; exact h12
    refine ⟨by have := h1.1; rwa [List.length_set] at this ⊢, fun q x hq => ?_⟩
    by_cases e : q = k
    · subst e
      have hlt := (List.getElem?_eq_some_iff.1 hy).1
      rw [List.getElem?_set_self hlt] at hq
      injection hq with hq
      subst hq
      obtain ⟨p, hp, hc⟩ := h1.2 q ⟨y.a, some ⟨g2, 0, none⟩, c2, ss⟩ (List.getElem?_set_self hlt)
      refine ⟨p, hp, fun j v hv => hc j v ?_⟩
      rw [← hv]
      show (kl _)[j]? = (kl _)[j]?
      simp only [kl, List.length_set]
    · rw [List.getElem?_set_ne (Ne.symm e)] at hq
      exact h1.2 q x (by rw [List.getElem?_set_ne (Ne.symm e)]; exact hq)
  · rcases List.mem_or_eq_of_mem_set hz with hz | rfl
    · obtain ⟨h1, h2⟩ := hin z hz
      exact ⟨h1.a0, h1.a1, rw_apart h1.lies h2, h1.le, h1.max⟩
    · have hy1 := (hin y (List.mem_of_getElem? hy)).1
      exact ⟨hy1.a0, hy1.a1, set_row hs hm, by rw [List.length_set]; exact hc2, hm2⟩

set_option maxRecDepth 100000 in
set_option maxHeartbeats 16000000 in
theorem seenRight_walk (A0 : Option Addr) (rs : List Kp) (cap0 : Nat) (A : Option Addr) (xs : List Ac) (cap : Nat) (p : Int) (s : Sg) (w : World) (h0 : Ks w A0 rs) (hcap0 : rs.length ≤ cap0) (h : Ra w A xs) (hcap : xs.length ≤ cap) (p0 : 0 ≤ p) (p1 : p < 256) :
    Calls Try.prog 5 #[.slice A0 rs.length cap0, .slice A xs.length cap, .int .u8 p, sv s] w fun e w' => e = .returned (.bool true) ∧ Below w.heap.size w w' := by
  have hz := h.1
  have hA0 : Below w.heap.size w (w.alloc (Sx s)) := (Below.refl _ w).alloc (Nat.le_refl _) _
  have R := Lib.hid (h.below hA0)
  have K0 := Lib.hid (h0.below hA0)
  have B0 := Lib.hid hA0
  have S0 := Lib.hid (rw_one w s)
  have HAW := Lib.hid (awake_any (w.alloc (Sx s)))
  have HSM := Lib.hid fun W (hW : Ra W A xs) => some_any A xs cap W hW hcap
  have HG := Lib.hid (SM_good xs (min xs.length 120) (by omega))
  have HRR := Lib.hid fun W (hW : Ks W A0 rs) => right_any A0 rs cap0 W hW hcap0
  have HRL := Lib.hid fun W (hW : Ks W A0 rs) => rlaw_any A0 rs cap0 W hW hcap0
  clear h h0 hA0
  obtain ⟨q, hq⟩ : ∃ q, SM xs (min xs.length 120) = q := ⟨_, rfl⟩
  rw [hq] at HSM HG
  obtain ⟨ys, N⟩ := q
  have HV := Lib.hid HG.out.v
  have hyl : ys.length ≤ 96 := HV.out.le
  have HRY := Lib.hid fun A1 c1 W (hW : Ks W A1 ys) (hc : ys.length ≤ c1) => right_any A1 ys c1 W hW hc
  rw [HV.out.right] at HRY
  have HOK := Lib.hid (show ∀ x ∈ ys, 1 ≤ x.ss.length ∧ x.ss.length ≤ 8 from fun x hx => ((rsB_iff _).1 (HV.out.ok x hx)).1)
  have HRX := Lib.hid fun A1 c1 W ps (hW : Ks W A1 ps) (hc : ps.length ≤ c1) => right_any A1 ps c1 W hW hc
  have HLX := Lib.hid fun A1 c1 W ps (hW : Ks W A1 ps) (hc : ps.length ≤ c1) => rlaw_any A1 ps c1 W hW hc
  clear hq HG HV
  obtain ⟨YL, hYL⟩ : ∃ YL, ys.length = YL := ⟨_, rfl⟩
  have HYL := Lib.hid hYL
  rw [hYL] at HRY hyl
  obtain ⟨RB, hRB⟩ : ∃ RB, rightB rs = RB := ⟨_, rfl⟩
  rw [hRB] at HRR HRL
  clear hYL hRB
  obtain ⟨sf, x0, x1, x2, x3, x4, x5, st⟩ := s
  simp only [Sx] at R K0 B0 S0 HAW
  simp only [sv] at ⊢
  generalize rs.length = RL at *
  go_enter Try.func5, Try.ntmps5
  go_wp2_with fail
  refine HAW.out.mono ?_
  rintro e w1 ⟨rfl, hb⟩
  have RW := Lib.hid (R.out.below hb)
  have K1 := Lib.hid (K0.out.below hb)
  have B1 := Lib.hid (bthen B0.out hb B0.out.size)
  have S1 := Lib.hid (S0.out.below hb)
  clear hb B0 R K0 S0 HAW
  go_wp2_with fail
  refine (HSM.out _ RW.out).mono ?_
  rintro e w2 ⟨v2, rfl, hb, A2, c2, rfl, hc2, -, hK2⟩
  rw [HYL.out] at hc2 ⊢
  dsimp only at hK2
  have B2 := Lib.hid (bthen B1.out hb B1.out.size)
  have K2 := Lib.hid hK2
  have R2 := Lib.hid (K1.out.below hb)
  have S2 := Lib.hid (S1.out.below hb)
  clear hb hK2 RW B1 HSM K1 S1
  go_wp2_with fail
  refine (HRY.out _ _ _ K2.out hc2).mono ?_
  rintro e w3 ⟨rfl, hb⟩
  have B3 := Lib.hid (bthen B2.out hb B2.out.size)
  have K3 := Lib.hid (K2.out.below hb)
  have R3 := Lib.hid (R2.out.below hb)
  have S3 := Lib.hid (S2.out.below hb)
  clear hb B2 K2 R2 S2
  go_wp2_with fail
  refine (HRR.out _ R3.out).mono ?_
  rintro e w4 ⟨rfl, hb⟩
  have B4 := Lib.hid (bthen B3.out hb B3.out.size)
  have K4 := Lib.hid (K3.out.below hb)
  have R4 := Lib.hid (R3.out.below hb)
  have S4 := Lib.hid (S3.out.below hb)
  clear hb B3 K3 R3 S3
  go_wp2_with fail
  refine (HRL.out _ R4.out).mono ?_
  rintro e w5 ⟨rfl, hb⟩
  have B5 := Lib.hid (bthen B4.out hb B4.out.size)
  have K5 := Lib.hid (K4.out.below hb)
  have S5 := Lib.hid (S4.out.below hb)
  clear hb B4 K4 R4 S4 HRR HRL
  rcases YL with _ | yl
  · go_wp2_with fail
    go_ret
    exact ⟨rfl, B5.out⟩
  obtain ⟨kns, hkp, hke⟩ := K5.out
  have hkl : kns.length = yl + 1 := by rw [← HYL.out, ← hkp, List.length_map]
  have HKL := Lib.hid hkl
  have HKE := Lib.hid hke
  have HKP := Lib.hid hkp
  obtain ⟨k, hk⟩ : ∃ k : Nat, p % ((yl : Int) + 1) = k := ⟨(p % ((yl : Int) + 1)).toNat, by have := Int.emod_nonneg p (show (yl : Int) + 1 ≠ 0 by omega); omega⟩
  have hkl1 : k < yl + 1 := by
    have := Int.emod_lt_of_pos p (show (0 : Int) < (yl : Int) + 1 by omega)
    omega
  have HKM := Lib.hid (show p.tmod ((yl : Int) + 1) = (k : Int) by rw [Int.tmod_eq_emod_of_nonneg p0]; exact hk)
  clear hkp hke hkl
  go_upto_region 8 with fail
  go_wp2_with (at_builtin; refine wpList_append_rw tK _ rfl (.const (.slice none 0 0)) (.tmp 33) rfl w5.heap.size _ 0 [] rfl (World.ownsRow_nil _ _ _ _) A2 (yl + 1) c2 kns (by simp [Act.eval, Act.put]) HKL.out.symm HKE.out.1 (by omega) (Nat.le_refl _) ?_)
  intro v1 W1 ho1 hg1
  obtain ⟨g1, c1, rfl, hb1, hl1⟩ := ho1.form (by omega)
  try simp only [List.nil_append, Nat.zero_add] at ho1
  try simp only [Nat.zero_add]
  have hBB : Below w5.heap.size w5 W1 := (Below.refl _ w5).grown hg1 (Nat.le_refl _) (by intro j hj; cases hj)
  obtain ⟨y, hy⟩ : ∃ y, kns[k]? = some y := ⟨_, List.getElem?_eq_getElem (by rw [HKL.out]; exact hkl1)⟩
  have hym := List.mem_of_getElem? hy
  have hin1 : ∀ z ∈ kns, z.In W1 ∧ (0 < z.ss.length → ∀ p, z.P = some p → p.block < w5.heap.size) := fun z hz => ⟨(HKE.out.2 z hz).below hBB, fun hl p hp => by
    have := (HKE.out.2 z hz).lies
    rw [hp] at this
    exact rw_lt this hl⟩
  have hyo : 1 ≤ y.ss.length ∧ y.ss.length ≤ 8 := HOK.out y.p (by rw [← HKP.out]; exact List.mem_map_of_mem hym)
  have d0 : W1.cell? ⟨g1, k * 2 + 1, none⟩ = some (.slice y.P y.ss.length y.c) := by
    have := ho1.cells (g := g1) rfl _ _ (cs_slice hy)
    rwa [Addr.add_mid, Nat.zero_add] at this
  have f0 : ∀ j, W1.frozen? ⟨g1, j, none⟩ = false := fun j => ho1.frozenAt j
  have HY := Lib.hid hy
  have HO1 := Lib.hid ho1
  have HI1 := Lib.hid hin1
  have HYI := Lib.hid (hin1 y hym).1
  have HB1 := Lib.hid (show Below w5.heap.size w5 W1 ∧ w5.heap.size ≤ g1 ∧ g1 < W1.heap.size from ⟨hBB, hb1, hl1⟩)
  have S6 := Lib.hid (S5.out.below hBB)
  have BW6 := Lib.hid (bthen B5.out hBB B5.out.size)
  have HWS := Lib.hid B5.out.size
  obtain ⟨ya, yP, yc, yss⟩ := y
  dsimp only at d0 HYI hyo
  obtain ⟨M, hM⟩ : ∃ M, yss.length = M := ⟨_, rfl⟩
  have HM := Lib.hid hM
  rw [hM] at d0 hyo
  clear ho1 hg1 hb1 hl1 hBB hy hym hin1 hM S5 B5
  go_wp2_with (at_builtin; refine wpList_append_rw tS _ rfl (.const (.slice none 0 0)) (.tmp 46) rfl W1.heap.size _ 0 [] rfl (World.ownsRow_nil _ _ _ _) yP M yc yss (by simp [Act.eval, Act.put]) HM.out.symm HYI.out.lies (by omega) (Nat.le_refl _) ?_)
  intro v2 W2 ho2 hg2
  obtain ⟨g2, c2', rfl, hb2, hl2⟩ := ho2.form (by omega)
  try simp only [List.nil_append, Nat.zero_add] at ho2
  try simp only [Nat.zero_add]
  have hBB2 : Below W1.heap.size W1 W2 := (Below.refl _ W1).grown hg2 (Nat.le_refl _) (by intro j hj; cases hj)
  have hlt12 : g1 < g2 := Nat.lt_of_lt_of_le HB1.out.2.2 hb2
  have e0 : W2.cell? ⟨g1, k * 2 + 1, none⟩ = some (.slice yP M yc) := by rw [hBB2.cell (p := ⟨g1, k * 2 + 1, none⟩) HB1.out.2.2]; exact d0
  have e1 : W2.frozen? ⟨g1, k * 2 + 1, none⟩ = false := by rw [hBB2.frozen (p := ⟨g1, k * 2 + 1, none⟩) HB1.out.2.2]; exact f0 _
  have hO2 : (W2.setCell ⟨g1, k * 2 + 1, none⟩ (.slice (some ⟨g2, 0, none⟩) M c2')).ownsRow w5.heap.size 53 2 (.slice (some ⟨g1, 0, none⟩) (yl + 1) c1) (yl + 1) (eK.cs (kns.set k ⟨ya, some ⟨g2, 0, none⟩, c2', yss⟩)) := by
    rw [cs_set (z := ⟨ya, some ⟨g2, 0, none⟩, c2', yss⟩) HY.out rfl]
    have := ((own_keep HO1.out hBB2).stored (k * 2 + 1) (.slice (some ⟨g2, 0, none⟩) M c2')).1
    rw [← HM.out] at this ⊢
    exact this
  have hS2 : Rw eS (W2.setCell ⟨g1, k * 2 + 1, none⟩ (.slice (some ⟨g2, 0, none⟩) M c2')) (some ⟨g2, 0, none⟩) yss := by
    obtain ⟨A3, c3, he, hc3, hm3, -, hr3, -⟩ := own_rw (E := eS) ho2 (by rw [HM.out]; omega)
    obtain ⟨rfl, -, rfl⟩ : some ⟨g2, 0, none⟩ = A3 ∧ M = yss.length ∧ c2' = c3 := by simpa using he
    exact rwS_stored hr3 e0 _
  have hth2 : (W2.setCell ⟨g1, k * 2 + 1, none⟩ (.slice (some ⟨g2, 0, none⟩) M c2')).heap.size = W2.heap.size := by simp
  have hcm : M ≤ c2' ∧ c2' ≤ maxLen := by
    obtain ⟨A3, c3, he, hc3, hm3, -, -, -⟩ := own_rw (E := eS) ho2 (by rw [HM.out]; omega)
    obtain ⟨-, -, rfl⟩ : some ⟨g2, 0, none⟩ = A3 ∧ M = yss.length ∧ c2' = c3 := by simpa using he
    rw [HM.out] at hc3
    exact ⟨hc3, hm3⟩
  have hfr2 : ∀ j, (W2.setCell ⟨g1, k * 2 + 1, none⟩ (.slice (some ⟨g2, 0, none⟩) M c2')).frozen? ⟨g2, j, none⟩ = false := fun j => by
    rw [World.frozen?_setCell]
    exact ho2.frozenAt j
  have hIN2 : ∀ z ∈ kns, z.In (W2.setCell ⟨g1, k * 2 + 1, none⟩ (.slice (some ⟨g2, 0, none⟩) M c2')) ∧ (0 < z.ss.length → ∀ p, z.P = some p → p.block ≠ g2) := fun z hz =>
    ⟨kn_stored ((HI1.out z hz).1.below hBB2) e0 _, fun hl p hp => by have := (HI1.out z hz).2 hl p hp; have := HB1.out.2.1; omega⟩
  have hBW : Below w.heap.size w (W2.setCell ⟨g1, k * 2 + 1, none⟩ (.slice (some ⟨g2, 0, none⟩) M c2')) := (bthen BW6.out hBB2 BW6.out.size).setCell (Nat.le_trans HWS.out HB1.out.2.1) _
  have HT := Lib.hid (show ∀ W, Below (W2.setCell ⟨g1, k * 2 + 1, none⟩ (.slice (some ⟨g2, 0, none⟩) M c2')).heap.size (W2.setCell ⟨g1, k * 2 + 1, none⟩ (.slice (some ⟨g2, 0, none⟩) M c2')) W → ∀ m s, m < M → ∃ ps, ps.length = yl + 1 ∧ Ks (W.setCells g2 (m * 8) (sl s)) (some ⟨g1, 0, none⟩) ps from fun W hW m s hm => by
    obtain ⟨A3, c3, he, -, -, -, hr3, -⟩ := own_rw (E := eK) hO2 (by rw [List.length_set, HKL.out]; omega)
    obtain ⟨rfl, -, -⟩ : some ⟨g1, 0, none⟩ = A3 ∧ yl + 1 = (kns.set k (⟨ya, some ⟨g2, 0, none⟩, c2', yss⟩ : Kn)).length ∧ c1 = c3 := by
      simp only [Value.slice.injEq] at he
      exact he
    obtain ⟨ps, h1, h2⟩ := turn_row (s := s) (hr3.below hW) HY.out (by omega) (fun z hz => ⟨(hIN2 z hz).1.below hW, (hIN2 z hz).2⟩) (hS2.below hW) (by rw [HM.out]; exact hcm.1) hcm.2 (by rw [HM.out]; exact hm)
    exact ⟨ps, by rw [h1, HKL.out], h2⟩)
  have HB57 := Lib.hid (show Below w5.heap.size w5 (W2.setCell ⟨g1, k * 2 + 1, none⟩ (.slice (some ⟨g2, 0, none⟩) M c2')) from (HB1.out.1.trans (hBB2.mono HB1.out.1.size)).setCell HB1.out.2.1 _)
  have hc1 : yl + 1 ≤ c1 := by
    obtain ⟨A3, c3, he, hc3, -, -, -, -⟩ := own_rw (E := eK) hO2 (by rw [List.length_set, HKL.out]; omega)
    simp only [Value.slice.injEq] at he
    rw [List.length_set, HKL.out] at hc3
    omega
  have h78 : Below W1.heap.size W2 (W2.setCell ⟨g1, k * 2 + 1, none⟩ (.slice (some ⟨g2, 0, none⟩) M c2')) ∨ True := .inr trivial
  have S7 := Lib.hid (show Rw eS (W2.setCell ⟨g1, k * 2 + 1, none⟩ (.slice (some ⟨g2, 0, none⟩) M c2')) (some ⟨w.heap.size, 0, none⟩) [(⟨sf, x0, x1, x2, x3, x4, x5, st⟩ : Sg)] from rwS_stored (S6.out.below hBB2) e0 _)
  have HTH := Lib.hid (show ∀ m, m < M → ∀ W, Below (W2.setCell ⟨g1, k * 2 + 1, none⟩ (.slice (some ⟨g2, 0, none⟩) M c2')).heap.size (W2.setCell ⟨g1, k * 2 + 1, none⟩ (.slice (some ⟨g2, 0, none⟩) M c2')) W → W.there g2 (m * 8) 8 from fun m hm W hW j hj => by
    have hlt : g2 < (W2.setCell ⟨g1, k * 2 + 1, none⟩ (.slice (some ⟨g2, 0, none⟩) M c2')).heap.size := by rw [hth2]; exact hl2
    constructor
    · rw [hW.cell (p := ⟨g2, m * 8 + j, none⟩) hlt]
      have hmy : m < yss.length := by rw [HM.out]; exact hm
      have hx := List.getElem?_eq_getElem (l := yss) (i := m) hmy
      have hv := List.getElem?_eq_getElem (l := sl yss[m]) (i := j) hj
      have := hS2.at hx j _ hv
      rw [Addr.add_mid, Addr.add_mid, Nat.zero_add] at this
      rw [show m * 8 + j = m * eS.N + j from rfl, this]
      rfl
    · rw [hW.frozen (p := ⟨g2, m * 8 + j, none⟩) hlt]
      exact hfr2 _)
  have HX1 := Lib.hid (show (W2.setCell ⟨g1, k * 2 + 1, none⟩ (.slice (some ⟨g2, 0, none⟩) M c2')).cell? ⟨g1, k * 2 + 1, none⟩ = some (.slice (some ⟨g2, 0, none⟩) M c2') from World.cell?_setCell_same _ _ _ e0)
  have HX2 := Lib.hid (show g1 < (W2.setCell ⟨g1, k * 2 + 1, none⟩ (.slice (some ⟨g2, 0, none⟩) M c2')).heap.size by rw [hth2]; have := HB1.out.2.2; have := hBB2.size; omega)
  have HC1 := Lib.hid hc1
  have HBW := Lib.hid hBW
  have HG2 := Lib.hid (show w.heap.size ≤ g2 ∧ w5.heap.size ≤ g2 from ⟨by have := HWS.out; have := HB1.out.2.1; omega, by have := HB1.out.2.1; omega⟩)
  obtain ⟨t3, ht3⟩ : ∃ t3 : Nat, p / 3 = t3 := ⟨(p / 3).toNat, by have := Int.ediv_nonneg p0 (show (0 : Int) ≤ 3 by omega); omega⟩
  obtain ⟨m, hm⟩ : ∃ m : Nat, (t3 : Int) % (M : Int) = m := ⟨((t3 : Int) % (M : Int)).toNat, by have := Int.emod_nonneg (t3 : Int) (show (M : Int) ≠ 0 by omega); omega⟩
  have hmM : m < M := by
    have := Int.emod_lt_of_pos (t3 : Int) (show (0 : Int) < M by omega)
    omega
  have HT3 := Lib.hid (show p.tdiv 3 = (t3 : Int) by rw [Int.tdiv_eq_ediv_of_nonneg p0]; exact ht3)
  have HTM := Lib.hid (show (t3 : Int).tmod (M : Int) = (m : Int) by rw [Int.tmod_eq_emod_of_nonneg (by omega)]; exact hm)
  have HWR := Lib.hid (show IntKind.i64.wrap p = p ∧ IntKind.i64.wrap (t3 : Int) = (t3 : Int) ∧ IntKind.i64.wrap (m : Int) = (m : Int) by refine ⟨?_, ?_, ?_⟩ <;> (rw [IntKind.wrap_i64]; omega))
  have HMP := Lib.hid (show ¬ (M = 0) by omega)
  have HIX := Lib.hid (fun W => run_idx25 ⟨g1, 0, none⟩ (yl + 1) c1 k hkl1 W)
  have HIM := Lib.hid (fun W => run_idx ⟨g2, 0, none⟩ M c2' m hmM W)
  clear hO2 hS2 hth2 hfr2 hIN2 hBW ho2 hg2 hb2 hBB2 HB1 S6 BW6 HO1 HI1 HYI HKE HKL HY h78 ht3 hm
  go_wp2_with fail
  generalize W2.setCell ⟨g1, k * 2 + 1, none⟩ (.slice (some ⟨g2, 0, none⟩) M c2') = W3 at *
  refine wp_region_rho_tail 17 [fx (.slice (some ⟨g1, 0, none⟩) (yl + 1) c1), fx (.int .i64 (k : Int)), fx (.pointer (some ⟨g1, k * 2, none⟩)), fx (.pointer (some ⟨g1, k * 2 + 1, none⟩)), fx (.slice (some ⟨g2, 0, none⟩) M c2'), fx (.int .u8 p), fx (.int .i64 p), fx (.int .i64 (t3 : Int)), fx (.slice (some ⟨g1, 0, none⟩) (yl + 1) c1), fx (.int .i64 (k : Int)), fx (.pointer (some ⟨g1, k * 2, none⟩)), fx (.pointer (some ⟨g1, k * 2 + 1, none⟩)), fx (.slice (some ⟨g2, 0, none⟩) M c2'), fx (.int .i64 (M : Int)), fx (.int .i64 (m : Int)), fx (.agg #[.int .i64 sf, .int .u8 x0, .int .u8 x1, .int .u8 x2, .int .u8 x3, .int .u8 x4, .int .u8 x5, .int .i64 st]), fx (.pointer (some ⟨g2, m * 8, none⟩))]
    (by kernel_rfl) (by simp) (by kernel_rfl) (by kernel_rfl) (by kernel_rfl) ?_ ?_ ?_
  · simp only [List.mem_cons, List.not_mem_nil, or_false]
    rintro φ (rfl | rfl | rfl | rfl | rfl | rfl | rfl | rfl | rfl | rfl | rfl | rfl | rfl | rfl | rfl | rfl | rfl)
    all_goals first | exact stable_fx _ | exact stable_fr _ _
  · intro AP
    refine OgSteps.cons ?_ (OgSteps.cons ?_ (OgSteps.cons ?_ (OgSteps.cons ?_ (OgSteps.cons ?_ (OgSteps.cons ?_ (OgSteps.cons ?_ (OgSteps.cons ?_ (OgSteps.cons ?_ (OgSteps.cons ?_ (OgSteps.cons ?_ (OgSteps.cons ?_ (OgSteps.cons ?_ (OgSteps.cons ?_ (OgSteps.cons ?_ (OgSteps.cons ?_ (OgSteps.cons ?_ (OgSteps.nil)))))))))))))))))
    · with_reducible refine OgStep.rpure AP ?_ ?_
      · rfl
      intro u ρ W R hS hp
      have f11 : ρ (.tmp 11) = .slice (some ⟨g1, 0, none⟩) (yl + 1) c1 := (R.other 11 (by kernel_rfl)).trans (by kernel_rfl)
      refine ⟨.slice (some ⟨g1, 0, none⟩) (yl + 1) c1, ?_, rfl⟩
      simp [execOp, go_sem, f11]
    · with_reducible refine OgStep.rpure AP ?_ ?_
      · rfl
      intro u ρ W R hS hp
      have f12 : ρ (.tmp 12) = .int .i64 (k : Int) := (R.other 12 (by kernel_rfl)).trans (by kernel_rfl)
      refine ⟨.int .i64 (k : Int), ?_, rfl⟩
      simp [execOp, go_sem, f12]
    · with_reducible refine OgStep.rpure AP ?_ ?_
      · rfl
      intro u ρ W R hS hp
      have h0 : u 0 = .slice (some ⟨g1, 0, none⟩) (yl + 1) c1 := hp ⟨0, .data⟩ (by simp) rfl
      have v0 : ρ (.tmp 50) = .slice (some ⟨g1, 0, none⟩) (yl + 1) c1 := (R.op 0 50 (by kernel_rfl)).trans h0
      have h1 : u 1 = .int .i64 (k : Int) := hp ⟨1, .data⟩ (by simp) rfl
      have v1 : ρ (.tmp 51) = .int .i64 (k : Int) := (R.op 1 51 (by kernel_rfl)).trans h1
      have Q := HIX.out W
      simp only [Addr.add_mid, Nat.zero_add] at Q
      refine ⟨.pointer (some ⟨g1, k * 2, none⟩), ?_, rfl⟩
      simp [execOp, go_sem, v0, v1, Q]
    · with_reducible refine OgStep.rpure AP ?_ ?_
      · rfl
      intro u ρ W R hS hp
      have h2 : u 2 = .pointer (some ⟨g1, k * 2, none⟩) := hp ⟨2, .data⟩ (by simp) rfl
      have v2 : ρ (.tmp 52) = .pointer (some ⟨g1, k * 2, none⟩) := (R.op 2 52 (by kernel_rfl)).trans h2
      refine ⟨.pointer (some ⟨g1, k * 2 + 1, none⟩), ?_, rfl⟩
      simp [execOp, go_sem, v2]
    · with_reducible refine OgStep.rpure AP ?_ ?_
      · rfl
      intro u ρ W R hS hp
      have h3 : u 3 = .pointer (some ⟨g1, k * 2 + 1, none⟩) := hp ⟨3, .data⟩ (by simp) rfl
      have v3 : ρ (.tmp 53) = .pointer (some ⟨g1, k * 2 + 1, none⟩) := (R.op 3 53 (by kernel_rfl)).trans h3
      have Q : W.cell? ⟨g1, k * 2 + 1, none⟩ = some (.slice (some ⟨g2, 0, none⟩) M c2') := by rw [hS.cell (p := ⟨g1, k * 2 + 1, none⟩) HX2.out]; exact HX1.out
      refine ⟨.slice (some ⟨g2, 0, none⟩) M c2', ?_, rfl⟩
      simp [execOp, go_sem, v3, Q]
    · with_reducible refine OgStep.rpure AP ?_ ?_
      · rfl
      intro u ρ W R hS hp
      have f2 : ρ (.tmp 2) = .int .u8 p := (R.other 2 (by kernel_rfl)).trans (by kernel_rfl)
      refine ⟨.int .u8 p, ?_, rfl⟩
      simp [execOp, go_sem, f2]
    · with_reducible refine OgStep.rpure AP ?_ ?_
      · rfl
      intro u ρ W R hS hp
      have h5 : u 5 = .int .u8 p := hp ⟨5, .data⟩ (by simp) rfl
      have v5 : ρ (.tmp 55) = .int .u8 p := (R.op 5 55 (by kernel_rfl)).trans h5
      have Q := HWR.out.1
      refine ⟨.int .i64 p, ?_, rfl⟩
      simp [execOp, go_sem, v5, Q]
    · with_reducible refine OgStep.rpure AP ?_ ?_
      · rfl
      intro u ρ W R hS hp
      have k0 := R.const (.int .i64 3)
      have h6 : u 6 = .int .i64 p := hp ⟨6, .data⟩ (by simp) rfl
      have v6 : ρ (.tmp 56) = .int .i64 p := (R.op 6 56 (by kernel_rfl)).trans h6
      have Q := HT3.out
      have Q2 := HWR.out.2.1
      refine ⟨.int .i64 (t3 : Int), ?_, rfl⟩
      simp [execOp, go_sem, k0, v6, Q, Q2]
    · with_reducible refine OgStep.rpure AP ?_ ?_
      · rfl
      intro u ρ W R hS hp
      have f11 : ρ (.tmp 11) = .slice (some ⟨g1, 0, none⟩) (yl + 1) c1 := (R.other 11 (by kernel_rfl)).trans (by kernel_rfl)
      refine ⟨.slice (some ⟨g1, 0, none⟩) (yl + 1) c1, ?_, rfl⟩
      simp [execOp, go_sem, f11]
    · with_reducible refine OgStep.rpure AP ?_ ?_
      · rfl
      intro u ρ W R hS hp
      have f12 : ρ (.tmp 12) = .int .i64 (k : Int) := (R.other 12 (by kernel_rfl)).trans (by kernel_rfl)
      refine ⟨.int .i64 (k : Int), ?_, rfl⟩
      simp [execOp, go_sem, f12]
    · with_reducible refine OgStep.rpure AP ?_ ?_
      · rfl
      intro u ρ W R hS hp
      have h8 : u 8 = .slice (some ⟨g1, 0, none⟩) (yl + 1) c1 := hp ⟨8, .data⟩ (by simp) rfl
      have v8 : ρ (.tmp 58) = .slice (some ⟨g1, 0, none⟩) (yl + 1) c1 := (R.op 8 58 (by kernel_rfl)).trans h8
      have h9 : u 9 = .int .i64 (k : Int) := hp ⟨9, .data⟩ (by simp) rfl
      have v9 : ρ (.tmp 59) = .int .i64 (k : Int) := (R.op 9 59 (by kernel_rfl)).trans h9
      have Q := HIX.out W
      simp only [Addr.add_mid, Nat.zero_add] at Q
      refine ⟨.pointer (some ⟨g1, k * 2, none⟩), ?_, rfl⟩
      simp [execOp, go_sem, v8, v9, Q]
    · with_reducible refine OgStep.rpure AP ?_ ?_
      · rfl
      intro u ρ W R hS hp
      have h10 : u 10 = .pointer (some ⟨g1, k * 2, none⟩) := hp ⟨10, .data⟩ (by simp) rfl
      have v10 : ρ (.tmp 60) = .pointer (some ⟨g1, k * 2, none⟩) := (R.op 10 60 (by kernel_rfl)).trans h10
      refine ⟨.pointer (some ⟨g1, k * 2 + 1, none⟩), ?_, rfl⟩
      simp [execOp, go_sem, v10]
    · with_reducible refine OgStep.rpure AP ?_ ?_
      · rfl
      intro u ρ W R hS hp
      have h11 : u 11 = .pointer (some ⟨g1, k * 2 + 1, none⟩) := hp ⟨11, .data⟩ (by simp) rfl
      have v11 : ρ (.tmp 61) = .pointer (some ⟨g1, k * 2 + 1, none⟩) := (R.op 11 61 (by kernel_rfl)).trans h11
      have Q : W.cell? ⟨g1, k * 2 + 1, none⟩ = some (.slice (some ⟨g2, 0, none⟩) M c2') := by rw [hS.cell (p := ⟨g1, k * 2 + 1, none⟩) HX2.out]; exact HX1.out
      refine ⟨.slice (some ⟨g2, 0, none⟩) M c2', ?_, rfl⟩
      simp [execOp, go_sem, v11, Q]
    · with_reducible refine OgStep.rpure AP ?_ ?_
      · rfl
      intro u ρ W R hS hp
      have h12 : u 12 = .slice (some ⟨g2, 0, none⟩) M c2' := hp ⟨12, .data⟩ (by simp) rfl
      have v12 : ρ (.tmp 62) = .slice (some ⟨g2, 0, none⟩) M c2' := (R.op 12 62 (by kernel_rfl)).trans h12
      refine ⟨.int .i64 (M : Int), ?_, rfl⟩
      simp [execOp, go_sem, v12]
    · with_reducible refine OgStep.rpure AP ?_ ?_
      · rfl
      intro u ρ W R hS hp
      have h7 : u 7 = .int .i64 (t3 : Int) := hp ⟨7, .data⟩ (by simp) rfl
      have v7 : ρ (.tmp 57) = .int .i64 (t3 : Int) := (R.op 7 57 (by kernel_rfl)).trans h7
      have h13 : u 13 = .int .i64 (M : Int) := hp ⟨13, .data⟩ (by simp) rfl
      have v13 : ρ (.tmp 63) = .int .i64 (M : Int) := (R.op 13 63 (by kernel_rfl)).trans h13
      have Q := HTM.out
      have Q2 := HWR.out.2.2
      have Q3 := HMP.out
      refine ⟨.int .i64 (m : Int), ?_, rfl⟩
      simp [execOp, go_sem, v7, v13, Q, Q2, Q3]
    · with_reducible refine OgStep.rpure AP ?_ ?_
      · rfl
      intro u ρ W R hS hp
      have f7 : ρ (.tmp 7) = .pointer (some ⟨w.heap.size, 0, none⟩) := (R.other 7 (by kernel_rfl)).trans (by kernel_rfl)
      exact ⟨.agg #[.int .i64 sf, .int .u8 x0, .int .u8 x1, .int .u8 x2, .int .u8 x3, .int .u8 x4, .int .u8 x5, .int .i64 st], exec_load rfl f7 (load35 (x := (⟨sf, x0, x1, x2, x3, x4, x5, st⟩ : Sg)) ((S7.out.below hS).at (q := 0) rfl)), rfl⟩
    · with_reducible refine OgStep.rpure AP ?_ ?_
      · rfl
      intro u ρ W R hS hp
      have h4 : u 4 = .slice (some ⟨g2, 0, none⟩) M c2' := hp ⟨4, .data⟩ (by simp) rfl
      have v4 : ρ (.tmp 54) = .slice (some ⟨g2, 0, none⟩) M c2' := (R.op 4 54 (by kernel_rfl)).trans h4
      have h14 : u 14 = .int .i64 (m : Int) := hp ⟨14, .data⟩ (by simp) rfl
      have v14 : ρ (.tmp 64) = .int .i64 (m : Int) := (R.op 14 64 (by kernel_rfl)).trans h14
      have Q := HIM.out W
      simp only [Addr.add_mid, Nat.zero_add] at Q
      refine ⟨.pointer (some ⟨g2, m * 8, none⟩), ?_, rfl⟩
      simp [execOp, go_sem, v4, v14, Q]
  · intro u W hS hF
    have e0 : u 0 = .slice (some ⟨g1, 0, none⟩) (yl + 1) c1 := hF 0 (by decide)
    have e1 : u 1 = .int .i64 (k : Int) := hF 1 (by decide)
    have e2 : u 2 = .pointer (some ⟨g1, k * 2, none⟩) := hF 2 (by decide)
    have e3 : u 3 = .pointer (some ⟨g1, k * 2 + 1, none⟩) := hF 3 (by decide)
    have e4 : u 4 = .slice (some ⟨g2, 0, none⟩) M c2' := hF 4 (by decide)
    have e5 : u 5 = .int .u8 p := hF 5 (by decide)
    have e6 : u 6 = .int .i64 p := hF 6 (by decide)
    have e7 : u 7 = .int .i64 (t3 : Int) := hF 7 (by decide)
    have e8 : u 8 = .slice (some ⟨g1, 0, none⟩) (yl + 1) c1 := hF 8 (by decide)
    have e9 : u 9 = .int .i64 (k : Int) := hF 9 (by decide)
    have e10 : u 10 = .pointer (some ⟨g1, k * 2, none⟩) := hF 10 (by decide)
    have e11 : u 11 = .pointer (some ⟨g1, k * 2 + 1, none⟩) := hF 11 (by decide)
    have e12 : u 12 = .slice (some ⟨g2, 0, none⟩) M c2' := hF 12 (by decide)
    have e13 : u 13 = .int .i64 (M : Int) := hF 13 (by decide)
    have e14 : u 14 = .int .i64 (m : Int) := hF 14 (by decide)
    have e15 : u 15 = .agg #[.int .i64 sf, .int .u8 x0, .int .u8 x1, .int .u8 x2, .int .u8 x3, .int .u8 x4, .int .u8 x5, .int .i64 st] := hF 15 (by decide)
    have e16 : u 16 = .pointer (some ⟨g2, m * 8, none⟩) := hF 16 (by decide)
    simp only [ogMk, Act.put, List.setIfInBounds_toArray, List.set_cons_zero, List.set_cons_succ, Nat.zero_add, Nat.reduceAdd, List.take_succ_cons, List.take_zero, List.drop_succ_cons, List.drop_zero]
    rw [e0, e1, e2, e3, e4, e5, e6, e7, e8, e9, e10, e11, e12, e13, e14, e15, e16]
    clear e0 e1 e2 e3 e4 e5 e6 e7 e8 e9 e10 e11 e12 e13 e14 e15 e16 hF
    have HS := Lib.hid hS
    clear hS
    refine wpList_store_mid rfl 35 (.tmp 66) (.tmp 65) rfl g2 (m * 8) (sl (⟨sf, x0, x1, x2, x3, x4, x5, st⟩ : Sg)).toArray (by simp [Act.eval, Act.put]) (by simp [Act.eval, Act.put, sl]) (HTH.out m hmM W HS.out) (by kernel_rfl) (by kernel_rfl) ?_
    have HB5 := Lib.hid (show Below w5.heap.size w5 (W.setCells g2 (m * 8) (sl (⟨sf, x0, x1, x2, x3, x4, x5, st⟩ : Sg))) from below_cells HG2.out.2 _ _ _ _ (HB57.out.trans (HS.out.mono HB57.out.size)))
    have HB9 := Lib.hid (show Below w.heap.size w (W.setCells g2 (m * 8) (sl (⟨sf, x0, x1, x2, x3, x4, x5, st⟩ : Sg))) from below_cells HG2.out.1 _ _ _ _ (bthen HBW.out HS.out HBW.out.size))
    obtain ⟨ps, hpl, hps⟩ := HT.out W HS.out m (⟨sf, x0, x1, x2, x3, x4, x5, st⟩ : Sg) hmM
    have KY := Lib.hid (K5.out.below HB5.out)
    have KX := Lib.hid hps
    have HR1 := Lib.hid fun A1 W (hW : Ks W A1 ps) => HRX.out A1 c1 W ps hW (by rw [hpl]; exact HC1.out)
    have HL1 := Lib.hid fun A1 W (hW : Ks W A1 ps) => HLX.out A1 c1 W ps hW (by rw [hpl]; exact HC1.out)
    rw [hpl] at HR1 HL1
    obtain ⟨RX, hRX⟩ : ∃ RX, rightB ps = RX := ⟨_, rfl⟩
    rw [hRX] at HR1 HL1
    show wpList _ _ _ _ _ (W.setCells g2 (m * 8) (sl (⟨sf, x0, x1, x2, x3, x4, x5, st⟩ : Sg)))
    generalize W.setCells g2 (m * 8) (sl (⟨sf, x0, x1, x2, x3, x4, x5, st⟩ : Sg)) = W5 at *
    clear hps hpl hRX HT HTH HS HB5 HB57 HBW HX1 HX2 S7
    go_wp2_with fail
    refine (HR1.out _ _ KX.out).mono ?_
    rintro e u1 ⟨rfl, hb⟩
    have KX1 := Lib.hid (KX.out.below hb)
    have KY1 := Lib.hid (KY.out.below hb)
    have B10 := Lib.hid (bthen HB9.out hb HB9.out.size)
    clear hb
    go_wp2_with fail
    refine (HL1.out _ _ KX1.out).mono ?_
    rintro e u2 ⟨rfl, hb⟩
    have KY2 := Lib.hid (KY1.out.below hb)
    have B11 := Lib.hid (bthen B10.out hb B10.out.size)
    clear hb
    go_wp2_with fail
    refine (HRY.out _ _ _ KY2.out hc2).mono ?_
    rintro e u3 ⟨rfl, hb⟩
    have B12 := Lib.hid (bthen B11.out hb B11.out.size)
    clear hb
    go_wp2_with fail
    go_ret
    exact ⟨rfl, B12.out⟩
end Go.Proofs.Ytcnhagcmklgpkaa
