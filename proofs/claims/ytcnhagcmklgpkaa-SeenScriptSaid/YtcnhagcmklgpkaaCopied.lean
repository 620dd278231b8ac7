/-
  The contract of seen.copied. Conditions: the row lies in memory, and has up to 1000000 addresses, each of up to 1000000 sightings.
-/
import Derived.Test.YtcnhagcmklgpkaaOf
set_option linter.unusedSimpArgs false
set_option linter.unusedVariables false
namespace Go.Proofs.Ytcnhagcmklgpkaa
open Go.RowKit

/-- A row of sightings has no slice among its cells. -/
theorem rwS_stored {w : World} {P : Option Addr} {ss : List Sg} {p : Addr} {A' : Option Addr} {n c : Nat} (h : Rw eS w P ss) (hp : w.cell? p = some (.slice A' n c)) (u : Value) : Rw eS (w.setCell p u) P ss := by
  refine ⟨h.1, fun q x hq => ?_⟩
  obtain ⟨y, hy, hc⟩ := h.2 q x hq
  refine ⟨y, hy, fun j v hv => ?_⟩
  have h1 := hc j v hv
  rw [World.cell?_setCell_other]
  · exact h1
  · intro e
    rw [← e, hp] at h1
    injection h1 with h1
    subst h1
    have := List.mem_of_getElem? hv
    simp [eS, sl] at this
theorem kn_stored {w : World} {x : Kn} {p : Addr} {A' : Option Addr} {n c : Nat} (h : x.In w) (hp : w.cell? p = some (.slice A' n c)) (u : Value) : x.In (w.setCell p u) := ⟨h.a0, h.a1, rwS_stored h.lies hp u, h.le, h.max⟩
/-- The cells of a row of which one has its sightings elsewhere. -/
theorem cs_set {ys : List Kn} {k : Nat} {y z : Kn} (hy : ys[k]? = some y) (ha : z.a = y.a) : eK.cs (ys.set k z) = (eK.cs ys).set (k * 2 + 1) (.slice z.P z.ss.length z.c) := by
  induction ys generalizing k with
  | nil => simp at hy
  | cons x r ih =>
    cases k with
    | zero =>
      simp at hy
      subst hy
      simp [El.cs, eK, kl, ha]
    | succ k =>
      have := ih (by simpa using hy)
      show eK.cl x ++ eK.cs (r.set k z) = (eK.cl x ++ eK.cs r).set ((k + 1) * 2 + 1) _
      rw [this, show (k + 1) * 2 + 1 = (eK.cl x).length + (k * 2 + 1) by show _ = 2 + _; omega, List.set_append_right _ _ (by omega)]
      simp
theorem cs_slice {ys : List Kn} {k : Nat} {y : Kn} (hy : ys[k]? = some y) : (eK.cs ys)[k * 2 + 1]? = some (.slice y.P y.ss.length y.c) := cs_at (E := eK) ys k y 1 hy (by decide)
theorem map_set {ys : List Kn} {k : Nat} {y z : Kn} (hy : ys[k]? = some y) (hz : z.p = y.p) : (ys.set k z).map Kn.p = ys.map Kn.p := by
  rw [List.map_set, hz]
  apply List.ext_getElem?
  intro j
  rw [List.getElem?_set]
  split
  · rename_i e
    subst e
    have := (List.getElem?_eq_some_iff.1 hy).1
    simp [this, hy]
    exact (List.getElem?_eq_some_iff.1 hy).2 ▸ rfl
  · rfl

set_option maxRecDepth 100000 in
set_option maxHeartbeats 2000000 in
theorem copied_any (A : Option Addr) (ps : List Kp) (cap : Nat) (w : World) (h : Ks w A ps) (hcap : ps.length ≤ cap) (hn : ps.length ≤ 1000000) (hb : ∀ x ∈ ps, x.ss.length ≤ 1000000) :
    Calls Try.prog 26 #[.slice A ps.length cap] w (KPost w ps) := by
  obtain ⟨xs, hxp, hK⟩ := h
  have hxl : xs.length = ps.length := by rw [← hxp, List.length_map]
  have HC := Lib.hid (cloneK_any A xs cap w hK.1 (by omega) (by omega))
  rw [hxl] at HC
  have HXP := Lib.hid hxp
  have HIN := Lib.hid hK.2
  have HPB := Lib.hid hb
  obtain ⟨L, hL⟩ : ∃ L, ps.length = L := ⟨_, rfl⟩
  have HL := Lib.hid hL
  have HXL := Lib.hid (hxl.trans hL)
  rw [hL] at hcap hn HC ⊢
  clear hL hxl hxp hK hb
  go_enter Try.func26, Try.ntmps26
  go_wp2_with fail
  refine HC.out.mono ?_
  rintro e w1 ⟨v1, rfl, ho, hbb⟩
  obtain ⟨A1, c1, rfl, hlc, hmc, -, -, -⟩ := own_rw (E := eK) ho (by rw [HXL.out]; omega)
  rw [HXL.out] at hlc ho ⊢
  have HR := Lib.hid (show ∃ ys, ys.map Kn.p = ps ∧ w1.ownsRow w.heap.size 53 2 (.slice A1 L c1) L (eK.cs ys) ∧ (∀ y ∈ ys, y.In w1) ∧ Below w.heap.size w w1 from ⟨xs, HXP.out, ho, fun y hy => (HIN.out y hy).below hbb, hbb⟩)
  have HMC := Lib.hid hmc
  clear ho hbb hmc
  go_wp2_with fail
  go_loopw [9] (fun i wr => ∃ k : Nat, i = .int .i64 k ∧ k ≤ L ∧ Hid (∃ ys, ys.map Kn.p = ps ∧ wr.ownsRow w.heap.size 53 2 (.slice A1 L c1) L (eK.cs ys) ∧ (∀ y ∈ ys, y.In wr) ∧ Below w.heap.size w wr)) (fun i _ => L - (intOf i).toNat)
  case atStart => exact ⟨0, rfl, by omega, HR⟩
  case round =>
    obtain ⟨k, rfl, hk, HH⟩ := hrel
    clear HR
    by_cases hlt : k < L
    · obtain ⟨ys, h1, h2, h3, h4⟩ := HH.out
      obtain ⟨g, cap', hv, hg1, hg2⟩ := h2.form (by omega)
      obtain ⟨rfl, rfl⟩ : A1 = some ⟨g, 0, none⟩ ∧ c1 = cap' := by simpa using hv
      have hyl : ys.length = L := by rw [← HL.out, ← h1, List.length_map]
      obtain ⟨y, hy⟩ : ∃ y, ys[k]? = some y := ⟨_, List.getElem?_eq_getElem (by omega)⟩
      have c0 : wr.cell? ⟨g, k * 2 + 1, none⟩ = some (.slice y.P y.ss.length y.c) := by
        have := h2.cells (g := g) rfl _ _ (cs_slice hy)
        rwa [Addr.add_mid, Nat.zero_add] at this
      have f0 : ∀ j, wr.frozen? ⟨g, j, none⟩ = false := fun j => h2.frozenAt j
      have hym := h3 y (List.mem_of_getElem? hy)
      have hyb : y.ss.length ≤ 1000000 := HPB.out y.p (by rw [← h1]; exact List.mem_map_of_mem (List.mem_of_getElem? hy))
      have HCL := Lib.hid (cloneS_any y.P y.ss y.c wr hym.lies hyb hym.le)
      have HYB := Lib.hid hyb
      have HHH := Lib.hid (show ys.map Kn.p = ps ∧ wr.ownsRow w.heap.size 53 2 (.slice (some ⟨g, 0, none⟩) L c1) L (eK.cs ys) ∧ (∀ y ∈ ys, y.In wr) ∧ Below w.heap.size w wr ∧ ys[k]? = some y from ⟨h1, h2, h3, h4, hy⟩)
      clear HH h1 h2 h3 h4 hv hyl hy hym hyb
      go_wp2_with fail
      refine HCL.out.mono ?_
      intro e w2 hp
      obtain ⟨v2, rfl, hb2, A2, c2, rfl, hlc2, hmc2, hr2⟩ := hp.s (by have := HYB.out; omega)
      obtain ⟨h1, h2, h3, h4, hy⟩ := HHH.out
      have d0 : w2.cell? ⟨g, k * 2 + 1, none⟩ = some (.slice y.P y.ss.length y.c) := by rw [hb2.cell (p := ⟨g, k * 2 + 1, none⟩) hg2]; exact c0
      have d1 : w2.frozen? ⟨g, k * 2 + 1, none⟩ = false := by rw [hb2.frozen (p := ⟨g, k * 2 + 1, none⟩) hg2]; exact f0 _
      have hz : (⟨y.a, A2, c2, y.ss⟩ : Kn).In w2 := ⟨(h3 y (List.mem_of_getElem? hy)).a0, (h3 y (List.mem_of_getElem? hy)).a1, hr2, hlc2, hmc2⟩
      have HN := Lib.hid (show ∃ zs, zs.map Kn.p = ps ∧ (w2.setCell ⟨g, k * 2 + 1, none⟩ (.slice A2 y.ss.length c2)).ownsRow w.heap.size 53 2 (.slice (some ⟨g, 0, none⟩) L c1) L (eK.cs zs) ∧ (∀ z ∈ zs, z.In (w2.setCell ⟨g, k * 2 + 1, none⟩ (.slice A2 y.ss.length c2))) ∧ Below w.heap.size w (w2.setCell ⟨g, k * 2 + 1, none⟩ (.slice A2 y.ss.length c2)) from by
        refine ⟨ys.set k ⟨y.a, A2, c2, y.ss⟩, ?_, ?_, ?_, ?_⟩
        · rw [map_set (z := ⟨y.a, A2, c2, y.ss⟩) hy rfl, h1]
        · rw [cs_set (z := ⟨y.a, A2, c2, y.ss⟩) hy rfl]
          exact ((own_keep h2 hb2).stored _ _).1
        · intro z hz'
          rcases List.mem_or_eq_of_mem_set hz' with hz' | rfl
          · exact kn_stored ((h3 z hz').below hb2) d0 _
          · exact kn_stored hz d0 _
        · exact (h4.trans (hb2.mono h4.size)).setCell hg1 _)
      clear hp hb2 hr2 h1 h2 h3 h4 hy hz HHH
      go_wp2_with fail
      go_roundw
      case rel => exact ⟨k + 1, by go_num, by omega, HN⟩
      case measure => simp [intOf]; omega
    · obtain rfl : k = L := by omega
      go_wp2_with fail
      go_ret
      obtain ⟨ys, h1, h2, h3, h4⟩ := HH.out
      have hyl : ys.length = k := by rw [← HL.out, ← h1, List.length_map]
      obtain ⟨A3, c3, he, hc3, hm3, -, hr3, -⟩ := own_rw (E := eK) h2 (by omega)
      obtain ⟨rfl, -, rfl⟩ : A1 = A3 ∧ k = ys.length ∧ c1 = c3 := by simpa using he
      exact ⟨_, rfl, h4, A1, c1, by rw [HL.out]; rfl, by rw [HL.out]; omega, HMC.out, ys, h1, hr3, h3⟩
end Go.Proofs.Ytcnhagcmklgpkaa
