/-
  Part of the proof: several texts in one file. No condition of its own.
-/
import Derived.Test.YtilneflfeegnfaaGreatPQa
import Derived.Test.YtilneflfeegnfaaGreatPQc
import Derived.Lib.QuietBelow
import Derived.Test.YtilneflfeegnfaaGreatProg
import Derived.WalkKit
import Derived.Lib.Strings
import Derived.WalkLawsBesides
import Derived.BigQuiet
import Derived.Deep.QuietTactic
import Derived.Deep.MidRow
import Derived.Deep.CutRange
import Derived.Deep.LoopGhost
import Derived.Deep.Slices
import Derived.Deep.OwnRows
import Derived.Deep.AppendLies
import Derived.Laws.OwnMore
import Derived.Laws.AppendOwn
import Derived.Laws.ResultCell
import Derived.Maps.AppendAt
import Derived.RegionTactic
import Derived.OwnWalk
import Derived.Lib.Hide
import Derived.Lib.MinMax
import Derived.StillTailTactics
import Derived.Test.YtilneflfeegnfaaGreatPQb
import Derived.BigGuard
import Derived.Laws.IdiomCopy
set_option linter.unusedSimpArgs false
set_option linter.unusedVariables false
namespace Go.Proofs.YtilneflfeegnfaaGreat.Sn
open Go.RowKit
def Bd (ps : List Kp) : Prop := ps.length ≤ 1000 ∧ ∀ x ∈ ps, x.ss.length ≤ 1000
def ins (ps : List Kp) (a : Int) (s : Sg) : List Kp := ps.take (lo ps a) ++ [⟨a, kp (sg ps a) s⟩] ++ ps.drop (lo ps a + if isAt ps a = true then 1 else 0)
def putC (ps : List Kp) (a : Int) (s : Sg) : Int :=
  if isrc s.f = false then 12 else if s.t < 0 ∨ any (sg ps a) = true ∧ s.t < tk (sg ps a) then 3 else if any (sg ps a) = false ∧ 96 ≤ ps.length then 4 else 0
def putR (ps : List Kp) (a : Int) (s : Sg) : List Kp := if putC ps a s = 0 then ins ps a s else []
def OutPost (w : World) (ys : List Kp) (q : Int) (e : Ending) (w' : World) : Prop := ∃ v, e = .returned (.tuple #[v, .int .i64 q]) ∧ Below w.heap.size w w' ∧ kF ys v w'
theorem out_no (w w' : World) (q : Int) (hb : Below w.heap.size w w') : OutPost w [] q (.returned (.tuple #[.slice none 0 0, .int .i64 q])) w' := ⟨_, rfl, hb, kF_nil _⟩
theorem sg_le {ps : List Kp} {n : Nat} (h : ∀ x ∈ ps, x.ss.length ≤ n) (a : Int) : (sg ps a).length ≤ n := by
  cases hI : isAt ps a with
  | false => rw [sg_no hI]; simp
  | true =>
    obtain ⟨x, hx, _⟩ := isAt_some hI
    rw [sg_at hI hx]
    exact h x (List.mem_of_getElem? hx)
theorem kp_le (ss : List Sg) (s : Sg) : (kp ss s).length ≤ 8 := by
  unfold kp
  rw [List.length_append, List.length_drop, List.length_singleton]
  omega
def bF (a : Int) (ss : List Sg) : Value → World → Prop := fun v W => ∃ A c, v = .agg #[.int .u32 a, .slice A ss.length c] ∧ ss.length ≤ c ∧ c ≤ maxLen ∧ Rw eS W A ss
theorem stable_bF (a : Int) (ss : List Sg) : Stable (bF a ss) := fun _ _ _ ⟨A, c, h1, h2, h3, h4⟩ hb => ⟨A, c, h1, h2, h3, h4.below hb⟩
def zF (B : Nat) : Value → World → Prop := fun v W => ∃ b, v = .pointer (some ⟨b, 0, none⟩) ∧ B ≤ b ∧ b < W.heap.size ∧ W.cell? ⟨b, 0, none⟩ = some (.int .u32 0) ∧ W.cell? ⟨b, 1, none⟩ = some (.slice none 0 0) ∧ ∀ j, W.frozen? ⟨b, j, none⟩ = false
theorem stable_zF (B : Nat) : Stable (zF B) := fun v w w' ⟨b, h1, h2, h3, h4, h5, h6⟩ hb => ⟨b, h1, h2, Nat.lt_of_lt_of_le h3 hb.size, by rw [hb.cell (p := ⟨b, 0, none⟩) h3]; exact h4, by rw [hb.cell (p := ⟨b, 1, none⟩) h3]; exact h5, fun j => by rw [hb.frozen (p := ⟨b, j, none⟩) h3]; exact h6 j⟩
theorem k_one (W : World) (x : Kn) (hx : x.In W) : kF [x.p] (.slice (some ⟨W.heap.size, 0, none⟩) 1 1) (W.alloc (.cells #[.int .u32 x.a, .slice x.P x.ss.length x.c] 66)) := by
  refine ⟨_, 1, rfl, by simp, by unfold maxLen; omega, [x], rfl, ⟨by simp, fun q z hq => ?_⟩, fun z hz => ?_⟩
  · match q, hq with
    | 0, hq =>
      simp at hq
      subst hq
      refine ⟨_, rfl, fun j v hv => ?_⟩
      rw [Addr.add_mid]
      change (kl x)[j]? = some v at hv
      show (W.alloc _).cell? ⟨W.heap.size, 0 + (0 * 2 + j), none⟩ = _
      match j, hv with
      | 0, h => simp [kl] at h; subst h; simp
      | 1, h => simp [kl] at h; subst h; simp
      | j + 2, h => simp [kl] at h
    | q + 1, hq => simp at hq
  · simp at hz
    subst hz
    exact hx.below ((Below.refl _ _).alloc (Nat.le_refl _) _)
def qK (rs : List Kp) : Value → World → Prop := fun v W => ∃ b qs, v = .slice (some ⟨b, 0, none⟩) 3 3 ∧ List.length qs = 3 ∧ Pm eK W b qs ∧ (cat qs 3).map Kn.p = rs ∧ ∀ x ∈ cat qs 3, x.In W
theorem stable_qK (rs : List Kp) : Stable (qK rs) := fun _ _ _ ⟨b, qs, h1, h2, h3, h4, h5⟩ hb => ⟨b, qs, h1, h2, Pm.below h3 hb, h4, fun x hx => (h5 x hx).below hb⟩
theorem qK_three {W : World} {A1 A2 A3 : Option Addr} {c1 c2 c3 : Nat} {r1 r2 r3 : List Kp} (h1 : Ks W A1 r1) (h2 : Ks W A2 r2) (h3 : Ks W A3 r3) : qK (r1 ++ r2 ++ r3) (.slice (some ⟨W.heap.size, 0, none⟩) 3 3) (W.alloc (.cells #[.slice A1 r1.length c1, .slice A2 r2.length c2, .slice A3 r3.length c3] 31)) := by
  obtain ⟨x1, rfl, g1⟩ := h1
  obtain ⟨x2, rfl, g2⟩ := h2
  obtain ⟨x3, rfl, g3⟩ := h3
  refine ⟨_, [⟨A1, x1, c1⟩, ⟨A2, x2, c2⟩, ⟨A3, x3, c3⟩], rfl, rfl, ?_, by simp [cat], fun x hx => ?_⟩
  · have := pm_three W ⟨A1, x1, c1⟩ ⟨A2, x2, c2⟩ ⟨A3, x3, c3⟩ 31 g1.1 g2.1 g3.1
    simpa using this
  · have hb : Below W.heap.size W (W.alloc (.cells #[.slice A1 (x1.map Kn.p).length c1, .slice A2 (x2.map Kn.p).length c2, .slice A3 (x3.map Kn.p).length c3] 31)) := (Below.refl _ _).alloc (Nat.le_refl _) _
    simp [cat] at hx
    rcases hx with hx | hx | hx
    · exact (g1.2 x hx).below hb
    · exact (g2.2 x hx).below hb
    · exact (g3.2 x hx).below hb
theorem concat_k {W : World} {b : Nat} {qs : List (Pt Kn)} {rs : List Kp} (hl : List.length qs = 3) (hp : Pm eK W b qs) (he : (cat qs 3).map Kn.p = rs) (hin : ∀ x ∈ cat qs 3, x.In W) (hn : rs.length ≤ 1000000) : Calls Tryz.prog 84 #[.slice (some ⟨b, 0, none⟩) 3 3] W (KPost W rs) := by
  have hcl : (cat qs 3).length = rs.length := by rw [← he, List.length_map]
  have := concatK_any qs b 3 W hp (by rw [hl]; omega) (by omega)
  rw [hl] at this
  refine this.mono ?_
  rintro e w' ⟨v, rfl, ho, hb⟩
  obtain ⟨A, c, rfl, h1, h2, h3, h4, h5⟩ := own_rw (E := eK) ho (by omega)
  exact ⟨_, rfl, hb, A, c, by rw [hcl], by omega, h2, cat qs 3, he, h4, fun x hx => (hin x hx).below hb⟩
theorem Ks.take {w : World} {A : Option Addr} {ps : List Kp} (h : Ks w A ps) (n : Nat) : Ks w A (ps.take n) := by
  obtain ⟨xs, rfl, h⟩ := h
  exact ⟨xs.take n, by rw [List.map_take], h.1.take n, fun x hx => h.2 x (List.mem_of_mem_take hx)⟩
theorem Ks.rest {w : World} {A : Option Addr} {ps : List Kp} (h : Ks w A ps) {c : Nat} (hc : ps.length ≤ c) (k : Nat) : Ks w (dA 2 A c k) (ps.drop k) := by
  obtain ⟨xs, rfl, h⟩ := h
  exact ⟨xs.drop k, by rw [List.map_drop], h.1.rest (by rw [List.length_map] at hc; exact hc) k, fun x hx => h.2 x (List.mem_of_mem_drop hx)⟩
def oneX (b : Nat) (a : Int) (A5 : Option Addr) (c5 N : Nat) (KK : List Sg) (W : World) : Prop := b < W.heap.size ∧ W.cell? ⟨b, 0, none⟩ = some (.int .u32 a) ∧ W.cell? ⟨b, 1, none⟩ = some (.slice A5 N c5) ∧ Rw eS W A5 KK
theorem oneX_below {b : Nat} {a : Int} {A5 : Option Addr} {c5 N : Nat} {KK : List Sg} {W W' : World} (h : oneX b a A5 c5 N KK W) (hb : Below W.heap.size W W') : W'.cell? ⟨b, 0, none⟩ = some (.int .u32 a) ∧ W'.cell? ⟨b, 1, none⟩ = some (.slice A5 N c5) ∧ Rw eS W' A5 KK :=
  ⟨by rw [hb.cell (p := ⟨b, 0, none⟩) h.1]; exact h.2.1, by rw [hb.cell (p := ⟨b, 1, none⟩) h.1]; exact h.2.2.1, h.2.2.2.below hb⟩
theorem one_stored {W : World} {b : Nat} {a : Int} {A5 : Option Addr} {c5 : Nat} {ss : List Sg} (hb : b < W.heap.size) (h0 : W.cell? ⟨b, 0, none⟩ = some (.int .u32 0)) (h1 : W.cell? ⟨b, 1, none⟩ = some (.slice none 0 0)) (hr : Rw eS W A5 ss) :
    oneX b a A5 c5 ss.length ss ((W.setCell ⟨b, 0, none⟩ (.int .u32 a)).setCell ⟨b, 1, none⟩ (.slice A5 ss.length c5)) := by
  have h1' : (W.setCell ⟨b, 0, none⟩ (.int .u32 a)).cell? ⟨b, 1, none⟩ = some (.slice none 0 0) := by rw [World.cell?_setCell_other _ _ _ _ (by simp)]; exact h1
  refine ⟨by simpa using hb, ?_, World.cell?_setCell_same _ _ _ h1', rwS_stored ?_ h1' _⟩
  · rw [World.cell?_setCell_other _ _ _ _ (by simp)]
    exact World.cell?_setCell_same _ _ _ h0
  · refine ⟨hr.1, fun q x hq => ?_⟩
    obtain ⟨y, hy, hc⟩ := hr.2 q x hq
    refine ⟨y, hy, fun j v hv => ?_⟩
    have h2 := hc j v hv
    rw [World.cell?_setCell_other]
    · exact h2
    · intro e
      rw [← e, h0] at h2
      injection h2 with h2
      subst h2
      have := List.mem_of_getElem? hv
      simp [eS, sl] at this
set_option maxRecDepth 100000 in
set_option maxHeartbeats 4000000 in
theorem put_any (a : Int) (s : Sg) (A : Option Addr) (xs : List Kp) (cap : Nat) (w : World) (h : Ks w A xs) (hc : xs.length ≤ cap) (hbd : Bd xs) (ha0 : 0 ≤ a) (ha1 : a < 4294967296) :
    Calls Tryz.prog 37 #[.slice A xs.length cap, .int .u32 a, sv s] w (OutPost w (putR xs a s) (putC xs a s)) := by
  have hle := lo_le a xs
  have hln := h.len
  have HBB0 := Lib.hid (show Below w.heap.size w (w.alloc (Sx s)) from (Below.refl _ w).alloc (Nat.le_refl _) _)
  have HM := Lib.hid (src_any s.f (w.alloc (Sx s)))
  cases hY : isrc s.f
  · have HT := Lib.hid (show putR xs a s = [] ∧ putC xs a s = 12 by simp [putR, putC, hY])
    rw [hY] at HM
    rw [HT.out.1, HT.out.2]
    clear hY h HT hbd
    generalize xs.length = L at *
    obtain ⟨sf, x0, x1, x2, x3, x4, x5, st⟩ := s
    simp only [sv, Sx] at HM HBB0 ⊢
    go_enter Tryz.func37, Tryz.ntmps37
    go_wp2_with fail
    refine HM.out.mono ?_
    rintro e w1 ⟨rfl, rfl⟩
    go_wp2_with fail
    go_ret2
    exact out_no w _ 12 HBB0.out
  have HLA := Lib.hid (last_any a A xs cap (w.alloc (Sx s)) (h.below HBB0.out) hc ha0 ha1)
  rw [hY] at HM
  by_cases hR3 : s.t < 0 ∨ any (sg xs a) = true ∧ s.t < tk (sg xs a)
  · have HT := Lib.hid (show putR xs a s = [] ∧ putC xs a s = 3 by
      have e : putC xs a s = 3 := by unfold putC; rw [if_neg (by rw [hY]; simp), if_pos hR3]
      exact ⟨by unfold putR; rw [e]; rfl, e⟩)
    rw [HT.out.1, HT.out.2]
    clear hY h HT hbd
    generalize xs.length = L at *
    by_cases h0 : s.t < 0
    · generalize any (sg xs a) = B1 at *
      generalize tk (sg xs a) = T1 at *
      clear hR3
      obtain ⟨sf, x0, x1, x2, x3, x4, x5, st⟩ := s
      simp only [sv, Sx] at HM HBB0 HLA h0 ⊢
      go_enter Tryz.func37, Tryz.ntmps37
      go_wp2_with fail
      refine HM.out.mono ?_
      rintro e w1 ⟨rfl, rfl⟩
      go_wp2_with fail
      refine HLA.out.mono ?_
      rintro e w1 ⟨rfl, n1, rfl⟩
      go_wp2_with fail
      go_ret2
      exact out_no w _ 3 (bdrewN HBB0.out n1)
    · obtain ⟨hB1, hT1⟩ : any (sg xs a) = true ∧ s.t < tk (sg xs a) := hR3.resolve_left h0
      rw [hB1] at HLA
      generalize tk (sg xs a) = T1 at *
      clear hR3 hB1
      obtain ⟨sf, x0, x1, x2, x3, x4, x5, st⟩ := s
      simp only [sv, Sx] at HM HBB0 HLA h0 hT1 ⊢
      go_enter Tryz.func37, Tryz.ntmps37
      go_wp2_with fail
      refine HM.out.mono ?_
      rintro e w1 ⟨rfl, rfl⟩
      go_wp2_with fail
      refine HLA.out.mono ?_
      rintro e w1 ⟨rfl, n1, rfl⟩
      go_wp2_with fail
      go_ret2
      exact out_no w _ 3 (bdrewN HBB0.out n1)
  by_cases hR4 : any (sg xs a) = false ∧ 96 ≤ xs.length
  · have HT := Lib.hid (show putR xs a s = [] ∧ putC xs a s = 4 by
      have e : putC xs a s = 4 := by unfold putC; rw [if_neg (by rw [hY]; simp), if_neg hR3, if_pos hR4]
      exact ⟨by unfold putR; rw [e]; rfl, e⟩)
    rw [HT.out.1, HT.out.2]
    rw [hR4.1] at HLA
    have h96 : (96 : Int) ≤ xs.length := by have := hR4.2; omega
    have h0 : ¬ s.t < 0 := fun e => hR3 (.inl e)
    clear hY h HT hbd hR3 hR4
    generalize xs.length = L at *
    generalize tk (sg xs a) = T1 at *
    obtain ⟨sf, x0, x1, x2, x3, x4, x5, st⟩ := s
    simp only [sv, Sx] at HM HBB0 HLA h0 ⊢
    go_enter Tryz.func37, Tryz.ntmps37
    go_wp2_with fail
    refine HM.out.mono ?_
    rintro e w1 ⟨rfl, rfl⟩
    go_wp2_with fail
    refine HLA.out.mono ?_
    rintro e w1 ⟨rfl, n1, rfl⟩
    go_wp2_with fail
    go_ret2
    exact out_no w _ 4 (bdrewN HBB0.out n1)
  have HT := Lib.hid (show putR xs a s = ins xs a s ∧ putC xs a s = 0 by
    have e : putC xs a s = 0 := by unfold putC; rw [if_neg (by rw [hY]; simp), if_neg hR3, if_neg hR4]
    exact ⟨by unfold putR; rw [e]; rfl, e⟩)
  rw [HT.out.1, HT.out.2]
  have h0 : ¬ s.t < 0 := fun e => hR3 (.inl e)
  have h1 : any (sg xs a) = true → ¬ s.t < tk (sg xs a) := fun e1 e2 => hR3 (.inr ⟨e1, e2⟩)
  have h2 : any (sg xs a) = false → ¬ (96 : Int) ≤ xs.length := fun e1 e2 => hR4 ⟨e1, by omega⟩
  have HBX0 := Lib.hid (rw_one w s)
  have HR := Lib.hid h
  have HPL := Lib.hid fun n => place_any a A xs cap ((w.alloc (Sx s)).drewN n) ((h.below HBB0.out).drewN n) ha0 ha1
  obtain ⟨R, hRR⟩ : ∃ R, ins xs a s = R := ⟨_, rfl⟩
  obtain ⟨G, hG⟩ : ∃ G, sg xs a = G := ⟨_, rfl⟩
  have hGl : G.length ≤ 1000 := by rw [← hG]; exact sg_le hbd.2 a
  have HKK := Lib.hid (kp_le G s)
  have HKP := Lib.hid fun W A3 c3 (h3 : Rw eS W A3 G) (hc3 : G.length ≤ c3) => keep_any s A3 G c3 W h3 hc3 (by omega)
  have HOF := Lib.hid (show ∀ W, Below w.heap.size w W → Calls Tryz.prog 43 #[.slice A xs.length cap, .int .u32 a] W (SPost W G) from fun W hW => by
    have := of_any a A xs cap W (h.below hW) hc (fun x hx => Nat.le_trans (hbd.2 x hx) (by omega)) ha0 ha1
    rw [hG] at this
    exact this)
  have HC1 := Lib.hid (show ∀ W, Below w.heap.size w W → Calls Tryz.prog 85 #[.slice A (lo xs a) cap] W (KPost W (xs.take (lo xs a))) from fun W hW => by
    have := copied_any A (xs.take (lo xs a)) cap W ((h.below hW).take _) (by rw [List.length_take]; omega) (by rw [List.length_take]; have := hbd.1; omega) (fun x hx => Nat.le_trans (hbd.2 x (List.mem_of_mem_take hx)) (by omega))
    rw [List.length_take, Nat.min_eq_left hle] at this
    exact this)
  have HC2 := Lib.hid (show ∀ D W, Below w.heap.size w W → Calls Tryz.prog 85 #[.slice (dA 2 A cap D) (xs.length - D) (cap - D)] W (KPost W (xs.drop D)) from fun D W hW => by
    have := copied_any (dA 2 A cap D) (xs.drop D) (cap - D) W ((h.below hW).rest hc D) (by rw [List.length_drop]; omega) (by rw [List.length_drop]; have := hbd.1; omega) (fun x hx => Nat.le_trans (hbd.2 x (List.mem_of_mem_drop hx)) (by omega))
    rw [List.length_drop] at this
    exact this)
  have HSH := Lib.hid (fun W => slK_h A xs.length cap (lo xs a) (by omega) W)
  have HSL := fun W => slK_l A xs.length cap (lo xs a) hle hc W
  have hL9 := hbd.1
  have HQ := Lib.hid (show ∀ (D : Nat), xs.take (lo xs a) ++ [⟨a, kp G s⟩] ++ xs.drop D = R → ∀ W A3 A5 A7 c3 c5 c7, Ks W A3 (xs.take (lo xs a)) → Ks W A5 [⟨a, kp G s⟩] → Ks W A7 (xs.drop D) → qK R (.slice (some ⟨W.heap.size, 0, none⟩) 3 3) (W.alloc (.cells #[.slice A3 (xs.take (lo xs a)).length c3, .slice A5 [(⟨a, kp G s⟩ : Kp)].length c5, .slice A7 (xs.drop D).length c7] 31)) from fun D hD W A3 A5 A7 c3 c5 c7 g3 g5 g7 => by
    rw [← hD]
    exact qK_three g3 g5 g7)
  have HA := Lib.hid (show (0 ≤ a ∧ a < 4294967296) from ⟨ha0, ha1⟩)
  have HRL := Lib.hid (show R.length ≤ 1000000 by
    rw [← hRR]
    unfold ins
    rw [List.length_append, List.length_append, List.length_take, List.length_drop, List.length_singleton]
    omega)
  have HD := Lib.hid (show xs.take (lo xs a) ++ [⟨a, kp G s⟩] ++ xs.drop (lo xs a + if isAt xs a = true then 1 else 0) = R by rw [← hRR, ← hG]; rfl)
  rw [hG] at HLA h1 h2
  rw [hRR]
  have hI : isAt xs a = true → lo xs a < xs.length := fun e => by obtain ⟨_, _, _, e⟩ := isAt_some e; exact e
  have HSL1 := fun (e : isAt xs a = true) W => slK_l A xs.length cap (lo xs a + 1) (hI e) hc W
  clear hY h HT hbd hR3 hR4 hRR hG
  generalize isAt xs a = I at *
  cases I
  · replace HQ := Lib.hid (HQ.out _ HD.out)
    replace HC2 := Lib.hid (HC2.out (lo xs a))
    simp only [Bool.false_eq_true, if_false, if_true, Nat.add_zero] at HQ HPL HD
    generalize xs.take (lo xs a) = T1 at *
    generalize xs.drop (lo xs a) = T2 at *
    generalize xs.length = L at *
    generalize lo xs a = P at *
    clear hI HSL1
    generalize any G = B1 at *
    generalize tk G = K1 at *
    obtain ⟨sf, x0, x1, x2, x3, x4, x5, st⟩ := s
    simp only [sv, Sx] at HM HBB0 HLA HPL HBX0 h0 h1 HKP HKK HQ ⊢
    cases B1
    · replace h2 := h2 rfl
      clear h1
      go_enter Tryz.func37, Tryz.ntmps37
      go_wp2_with fail
      refine HM.out.mono ?_
      rintro e w1 ⟨rfl, rfl⟩
      go_wp2_with fail
      refine HLA.out.mono ?_
      rintro e w1 ⟨rfl, n1, rfl⟩
      go_wp2_with fail
      refine (HPL.out n1).mono ?_
      rintro e w2 ⟨rfl, n2, hw2⟩
      have HB2 := Lib.hid (show Below w.heap.size w w2 from hw2 ▸ bdrewN (bdrewN HBB0.out n1) n2)
      have HBX := Lib.hid (show Rw eS w2 (some ⟨w.heap.size, 0, none⟩) [⟨sf, x0, x1, x2, x3, x4, x5, st⟩] from hw2 ▸ (HBX0.out.drewN n1).drewN n2)
      clear hw2 HM HLA HPL HBX0
      go_wp2_with fail
      refine wp_region_below_end (by simp) [fx (.int .u32 a), fx (.slice A L cap), fx (.int .u32 a), sF G, fx (.agg #[.int .i64 sf, .int .u8 x0, .int .u8 x1, .int .u8 x2, .int .u8 x3, .int .u8 x4, .int .u8 x5, .int .i64 st]), sF (kp G ⟨sf, x0, x1, x2, x3, x4, x5, st⟩), bF a (kp G ⟨sf, x0, x1, x2, x3, x4, x5, st⟩), zF w.heap.size]
        (by kernel_rfl) (by kernel_rfl) (by kernel_rfl) (by kernel_rfl) ?_ ?_ ?_
      · simp only [List.mem_cons, List.not_mem_nil, or_false]
        rintro φ (rfl | rfl | rfl | rfl | rfl | rfl | rfl | rfl)
        all_goals first | exact stable_fx _ | exact stable_fr _ _ | exact stable_sF _ | exact stable_bF _ _ | exact stable_zF _
      · refine OgSteps.cons ?_ (OgSteps.cons ?_ (OgSteps.cons ?_ (OgSteps.cons ?_ (OgSteps.cons ?_ (OgSteps.cons ?_ (OgSteps.cons ?_ (OgSteps.cons ?_ (OgSteps.nil))))))))
        · refine OgStep.pure ?_ ?_
          · rfl
          intro u W hS hp
          refine ⟨.int .u32 a, ?_, rfl⟩
          simp only [ogMk, Act.put, List.setIfInBounds_toArray, List.set_cons_zero, List.set_cons_succ, Nat.zero_add, Nat.reduceAdd]
          simp [execOp, Act.eval, go_sem]
        · refine OgStep.pure ?_ ?_
          · rfl
          intro u W hS hp
          refine ⟨.slice A L cap, ?_, rfl⟩
          simp only [ogMk, Act.put, List.setIfInBounds_toArray, List.set_cons_zero, List.set_cons_succ, Nat.zero_add, Nat.reduceAdd]
          simp [execOp, Act.eval, go_sem]
        · refine OgStep.pure ?_ ?_
          · rfl
          intro u W hS hp
          refine ⟨.int .u32 a, ?_, rfl⟩
          simp only [ogMk, Act.put, List.setIfInBounds_toArray, List.set_cons_zero, List.set_cons_succ, Nat.zero_add, Nat.reduceAdd]
          simp [execOp, Act.eval, go_sem]
        · refine OgStep.calls ?_ ?_
          · rfl
          intro u W hS hp
          have h1 : u 1 = .slice A L cap := hp ⟨1, .data⟩ (by simp) rfl
          have h2 : u 2 = .int .u32 a := hp ⟨2, .data⟩ (by simp) rfl
          refine ⟨43, #[.slice A L cap, .int .u32 a], ?_, calls_sF (HOF.out W (HB2.out.trans (hS.mono HB2.out.size))) rfl⟩
          simp only [ogMk, Act.put, List.setIfInBounds_toArray, List.set_cons_zero, List.set_cons_succ, Nat.zero_add, Nat.reduceAdd]
          simp [execOp, Act.eval, go_sem, h1, h2]
        · refine OgStep.pure ?_ ?_
          · rfl
          intro u W hS hp
          obtain ⟨R0, R1, R2, R3, R4, R5, R6, R7⟩ := s_c8 (HBX.out.below hS)
          refine ⟨.agg #[.int .i64 sf, .int .u8 x0, .int .u8 x1, .int .u8 x2, .int .u8 x3, .int .u8 x4, .int .u8 x5, .int .i64 st], ?_, rfl⟩
          simp only [ogMk, Act.put, List.setIfInBounds_toArray, List.set_cons_zero, List.set_cons_succ, Nat.zero_add, Nat.reduceAdd]
          simp [execOp, Act.eval, go_sem, R0, R1, R2, R3, R4, R5, R6, R7]
        · refine OgStep.calls ?_ ?_
          · rfl
          intro u W hS hp
          obtain ⟨A3, c3, h3, hc3, _, hR3⟩ : sF G (u 3) W := hp ⟨3, .data⟩ (by simp) rfl
          have h4 : u 4 = .agg #[.int .i64 sf, .int .u8 x0, .int .u8 x1, .int .u8 x2, .int .u8 x3, .int .u8 x4, .int .u8 x5, .int .i64 st] := hp ⟨4, .data⟩ (by simp) rfl
          refine ⟨83, #[.slice A3 G.length c3, .agg #[.int .i64 sf, .int .u8 x0, .int .u8 x1, .int .u8 x2, .int .u8 x3, .int .u8 x4, .int .u8 x5, .int .i64 st]], ?_, calls_sF (HKP.out W A3 c3 hR3 hc3) rfl⟩
          simp only [ogMk, Act.put, List.setIfInBounds_toArray, List.set_cons_zero, List.set_cons_succ, Nat.zero_add, Nat.reduceAdd]
          rw [h3, h4]
          simp [execOp, Act.eval, go_sem]
        · refine OgStep.pure ?_ ?_
          · rfl
          intro u W hS hp
          obtain ⟨A5, c5, h5, hc5, hm5, hR5⟩ : sF (kp G ⟨sf, x0, x1, x2, x3, x4, x5, st⟩) (u 5) W := hp ⟨5, .data⟩ (by simp) rfl
          have h0 : u 0 = .int .u32 a := hp ⟨0, .data⟩ (by simp) rfl
          refine ⟨.agg #[.int .u32 a, .slice A5 (kp G ⟨sf, x0, x1, x2, x3, x4, x5, st⟩).length c5], ?_, ⟨A5, c5, rfl, hc5, hm5, hR5⟩⟩
          simp only [ogMk, Act.put, List.setIfInBounds_toArray, List.set_cons_zero, List.set_cons_succ, Nat.zero_add, Nat.reduceAdd]
          rw [h0, h5]
          simp [execOp, Act.eval, go_sem]
        · refine OgStep.made ?_ ?_
          · rfl
          intro u W hS hp
          refine ⟨.pointer (some ⟨W.heap.size, 0, none⟩), _, ?_, (Below.refl _ W).alloc (Nat.le_refl _) (.cells #[.int .u32 0, .slice none 0 0] 66), ⟨W.heap.size, rfl, Nat.le_trans HB2.out.size hS.size, by simp, by simp, by simp, fun j => by simp⟩⟩
          simp only [ogMk, Act.put, List.setIfInBounds_toArray, List.set_cons_zero, List.set_cons_succ, Nat.zero_add, Nat.reduceAdd]
          simp [execOp, Act.eval, go_sem]
      · intro u W hS hF
        have hF' := hF
        have e0 : u 0 = .int .u32 a := hF 0 (by decide)
        have e1 : u 1 = .slice A L cap := hF 1 (by decide)
        have e2 : u 2 = .int .u32 a := hF 2 (by decide)
        have e4 : u 4 = .agg #[.int .i64 sf, .int .u8 x0, .int .u8 x1, .int .u8 x2, .int .u8 x3, .int .u8 x4, .int .u8 x5, .int .i64 st] := hF 4 (by decide)
        simp only [ogMk, Act.put, List.setIfInBounds_toArray, List.set_cons_zero, List.set_cons_succ, Nat.zero_add, Nat.reduceAdd]
        rw [e0, e1, e2, e4]
        clear e0 e1 e2 e4 hF
        obtain ⟨A5, c5, e6, hc5, hm5, hR5⟩ : bF a (kp G ⟨sf, x0, x1, x2, x3, x4, x5, st⟩) (u 6) W := hF' 6 (by decide)
        obtain ⟨b, e7, hb1, hb2, hb3, hb4, hb5⟩ : zF w.heap.size (u 7) W := hF' 7 (by decide)
        obtain ⟨A3, c3, e3, _⟩ : sF G (u 3) W := hF' 3 (by decide)
        obtain ⟨A4, c4, e5, _⟩ : sF (kp G ⟨sf, x0, x1, x2, x3, x4, x5, st⟩) (u 5) W := hF' 5 (by decide)
        rw [e3, e5, e6, e7]
        have HW := Lib.hid (HB2.out.trans (hS.mono HB2.out.size))
        clear hF' e3 e5 e6 e7
        have hf0 := hb5 0
        have hf1 := hb5 1
        have HB4 := Lib.hid (show Below w.heap.size w ((W.setCell ⟨b, 0, none⟩ (.int .u32 a)).setCell ⟨b, 1, none⟩ (.slice A5 (kp G ⟨sf, x0, x1, x2, x3, x4, x5, st⟩).length c5)) from (HW.out.setCell hb1 _).setCell hb1 _)
        have HX := Lib.hid (show oneX b a A5 c5 (kp G ⟨sf, x0, x1, x2, x3, x4, x5, st⟩).length (kp G ⟨sf, x0, x1, x2, x3, x4, x5, st⟩) ((W.setCell ⟨b, 0, none⟩ (.int .u32 a)).setCell ⟨b, 1, none⟩ (.slice A5 (kp G ⟨sf, x0, x1, x2, x3, x4, x5, st⟩).length c5)) from one_stored hb2 hb3 hb4 hR5)
        have HK1 := Lib.hid fun W (hW : Rw eS W A5 (kp G ⟨sf, x0, x1, x2, x3, x4, x5, st⟩)) => k_one W ⟨a, A5, c5, kp G ⟨sf, x0, x1, x2, x3, x4, x5, st⟩⟩ ⟨HA.out.1, HA.out.2, hW, hc5, hm5⟩
        clear hR5 hS hb5 hm5 hc5 HBX
        go_wp2_with fail
        refine wp_region_below [fx (.slice A L cap), fx (.int .i64 (P : Int)), fx (.slice A P cap), kF T1, fx (.agg #[.int .u32 a, .slice A5 (kp G ⟨sf, x0, x1, x2, x3, x4, x5, st⟩).length c5]), kF [⟨a, (kp G ⟨sf, x0, x1, x2, x3, x4, x5, st⟩)⟩], fx (.slice (dA 2 A cap (P)) (L - (P)) (cap - (P))), kF T2, qK R, kF R, kF R, fx (.int .i64 0)]
          (by kernel_rfl) (by kernel_rfl) (by kernel_rfl) ?_ ?_ ?_
        · simp only [List.mem_cons, List.not_mem_nil, or_false]
          rintro φ (rfl | rfl | rfl | rfl | rfl | rfl | rfl | rfl | rfl | rfl | rfl | rfl)
          all_goals first | exact stable_fx _ | exact stable_fr _ _ | exact stable_kF _ | exact stable_qK _
        · refine OgSteps.cons ?_ (OgSteps.cons ?_ (OgSteps.cons ?_ (OgSteps.cons ?_ (OgSteps.cons ?_ (OgSteps.cons ?_ (OgSteps.cons ?_ (OgSteps.cons ?_ (OgSteps.cons ?_ (OgSteps.cons ?_ (OgSteps.cons ?_ (OgSteps.cons ?_ (OgSteps.nil))))))))))))
          · refine OgStep.pure ?_ ?_
            · rfl
            intro u W hS hp
            refine ⟨.slice A L cap, ?_, rfl⟩
            simp only [ogMk, Act.put, List.setIfInBounds_toArray, List.set_cons_zero, List.set_cons_succ, Nat.zero_add, Nat.reduceAdd]
            simp [execOp, Act.eval, go_sem]
          · refine OgStep.pure ?_ ?_
            · rfl
            intro u W hS hp
            refine ⟨.int .i64 (P : Int), ?_, rfl⟩
            simp only [ogMk, Act.put, List.setIfInBounds_toArray, List.set_cons_zero, List.set_cons_succ, Nat.zero_add, Nat.reduceAdd]
            simp [execOp, Act.eval, go_sem]
          · refine OgStep.pure ?_ ?_
            · rfl
            intro u W hS hp
            have h0 : u 0 = .slice A L cap := hp ⟨0, .data⟩ (by simp) rfl
            have h1 : u 1 = .int .i64 (P : Int) := hp ⟨1, .data⟩ (by simp) rfl
            have R := HSH.out W
            refine ⟨.slice A P cap, ?_, rfl⟩
            simp only [ogMk, Act.put, List.setIfInBounds_toArray, List.set_cons_zero, List.set_cons_succ, Nat.zero_add, Nat.reduceAdd]
            simp [execOp, Act.eval, go_sem, h0, h1, R]
          · refine OgStep.calls ?_ ?_
            · rfl
            intro u W hS hp
            have h2 : u 2 = .slice A P cap := hp ⟨2, .data⟩ (by simp) rfl
            refine ⟨85, #[.slice A P cap], ?_, calls_kF (HC1.out W (HB4.out.trans (hS.mono HB4.out.size))) rfl⟩
            simp only [ogMk, Act.put, List.setIfInBounds_toArray, List.set_cons_zero, List.set_cons_succ, Nat.zero_add, Nat.reduceAdd]
            simp [execOp, Act.eval, go_sem, h2]
          · refine OgStep.pure ?_ ?_
            · rfl
            intro u W hS hp
            have R0 := (oneX_below HX.out hS).1
            have R1 := (oneX_below HX.out hS).2.1
            refine ⟨.agg #[.int .u32 a, .slice A5 (kp G ⟨sf, x0, x1, x2, x3, x4, x5, st⟩).length c5], ?_, rfl⟩
            simp only [ogMk, Act.put, List.setIfInBounds_toArray, List.set_cons_zero, List.set_cons_succ, Nat.zero_add, Nat.reduceAdd]
            simp [execOp, Act.eval, go_sem, R0, R1]
          · refine OgStep.made ?_ ?_
            · rfl
            intro u W hS hp
            have h4 : u 4 = .agg #[.int .u32 a, .slice A5 (kp G ⟨sf, x0, x1, x2, x3, x4, x5, st⟩).length c5] := hp ⟨4, .data⟩ (by simp) rfl
            refine ⟨.slice (some ⟨W.heap.size, 0, none⟩) 1 1, _, ?_, (Below.refl _ W).alloc (Nat.le_refl _) _, HK1.out W (oneX_below HX.out hS).2.2⟩
            simp only [ogMk, Act.put, List.setIfInBounds_toArray, List.set_cons_zero, List.set_cons_succ, Nat.zero_add, Nat.reduceAdd]
            simp [execOp, Act.eval, go_sem, h4]
          · refine OgStep.pure ?_ ?_
            · rfl
            intro u W hS hp
            refine ⟨.slice (dA 2 A cap (P)) (L - (P)) (cap - (P)), ?_, rfl⟩
            simp only [ogMk, Act.put, List.setIfInBounds_toArray, List.set_cons_zero, List.set_cons_succ, Nat.zero_add, Nat.reduceAdd]
            simp [execOp, Act.eval, go_sem]
          · refine OgStep.calls ?_ ?_
            · rfl
            intro u W hS hp
            have h6 : u 6 = .slice (dA 2 A cap (P)) (L - (P)) (cap - (P)) := hp ⟨6, .data⟩ (by simp) rfl
            refine ⟨85, #[.slice (dA 2 A cap (P)) (L - (P)) (cap - (P))], ?_, calls_kF (HC2.out W (HB4.out.trans (hS.mono HB4.out.size))) rfl⟩
            simp only [ogMk, Act.put, List.setIfInBounds_toArray, List.set_cons_zero, List.set_cons_succ, Nat.zero_add, Nat.reduceAdd]
            simp [execOp, Act.eval, go_sem, h6]
          · refine OgStep.made ?_ ?_
            · rfl
            intro u W hS hp
            obtain ⟨A3, c3, h3, _, _, hR3⟩ : kF T1 (u 3) W := hp ⟨3, .data⟩ (by simp) rfl
            obtain ⟨A5, c5, h5, _, _, hR5⟩ : kF [⟨a, (kp G ⟨sf, x0, x1, x2, x3, x4, x5, st⟩)⟩] (u 5) W := hp ⟨5, .data⟩ (by simp) rfl
            obtain ⟨A7, c7, h7, _, _, hR7⟩ : kF T2 (u 7) W := hp ⟨7, .data⟩ (by simp) rfl
            refine ⟨.slice (some ⟨W.heap.size, 0, none⟩) 3 3, _, ?_, (Below.refl _ W).alloc (Nat.le_refl _) _, HQ.out W A3 A5 A7 c3 c5 c7 hR3 hR5 hR7⟩
            simp only [ogMk, Act.put, List.setIfInBounds_toArray, List.set_cons_zero, List.set_cons_succ, Nat.zero_add, Nat.reduceAdd]
            rw [h3, h5, h7]
            simp [execOp, Act.eval, go_sem]
          · refine OgStep.calls ?_ ?_
            · rfl
            intro u W hS hp
            obtain ⟨b, qs, e8, hl8, hPm, hct, hin⟩ : qK R (u 8) W := hp ⟨8, .data⟩ (by simp) rfl
            refine ⟨84, #[.slice (some ⟨b, 0, none⟩) 3 3], ?_, calls_kF (concat_k hl8 hPm hct hin HRL.out) rfl⟩
            simp only [ogMk, Act.put, List.setIfInBounds_toArray, List.set_cons_zero, List.set_cons_succ, Nat.zero_add, Nat.reduceAdd]
            rw [e8]
            simp [execOp, Act.eval, go_sem]
          · refine OgStep.pure ?_ ?_
            · rfl
            intro u W hS hp
            have h9 : kF R (u 9) W := hp ⟨9, .data⟩ (by simp) rfl
            refine ⟨u 9, ?_, h9⟩
            simp only [ogMk, Act.put, List.setIfInBounds_toArray, List.set_cons_zero, List.set_cons_succ, Nat.zero_add, Nat.reduceAdd]
            simp [execOp, Act.eval, go_sem]
          · refine OgStep.pure ?_ ?_
            · rfl
            intro u W hS hp
            refine ⟨.int .i64 0, ?_, rfl⟩
            simp only [ogMk, Act.put, List.setIfInBounds_toArray, List.set_cons_zero, List.set_cons_succ, Nat.zero_add, Nat.reduceAdd]
            simp [execOp, Act.eval, go_sem]
        · intro u W hS hF'
          have hF10 : kF R (u 10) W := hF' 10 (by decide)
          have hF := hF'
          have e0 : u 0 = .slice A L cap := hF 0 (by decide)
          have e1 : u 1 = .int .i64 (P : Int) := hF 1 (by decide)
          have e2 : u 2 = .slice A P cap := hF 2 (by decide)
          have e4 : u 4 = .agg #[.int .u32 a, .slice A5 (kp G ⟨sf, x0, x1, x2, x3, x4, x5, st⟩).length c5] := hF 4 (by decide)
          have e6 : u 6 = .slice (dA 2 A cap (P)) (L - (P)) (cap - (P)) := hF 6 (by decide)
          have e11 : u 11 = .int .i64 0 := hF 11 (by decide)
          simp only [ogMk, Act.put, List.setIfInBounds_toArray, List.set_cons_zero, List.set_cons_succ, Nat.zero_add, Nat.reduceAdd]
          rw [e0, e1, e2, e4, e6, e11]
          clear hF' e0 e1 e2 e4 e6 e11 hF
          go_wp2_with fail
          go_ret2
          exact ⟨_, rfl, HB4.out.trans (hS.mono HB4.out.size), hF10⟩
    · replace h1 := h1 rfl
      clear h2
      go_enter Tryz.func37, Tryz.ntmps37
      go_wp2_with fail
      refine HM.out.mono ?_
      rintro e w1 ⟨rfl, rfl⟩
      go_wp2_with fail
      refine HLA.out.mono ?_
      rintro e w1 ⟨rfl, n1, rfl⟩
      go_wp2_with fail
      refine (HPL.out n1).mono ?_
      rintro e w2 ⟨rfl, n2, hw2⟩
      have HB2 := Lib.hid (show Below w.heap.size w w2 from hw2 ▸ bdrewN (bdrewN HBB0.out n1) n2)
      have HBX := Lib.hid (show Rw eS w2 (some ⟨w.heap.size, 0, none⟩) [⟨sf, x0, x1, x2, x3, x4, x5, st⟩] from hw2 ▸ (HBX0.out.drewN n1).drewN n2)
      clear hw2 HM HLA HPL HBX0
      go_wp2_with fail
      refine wp_region_below_end (by simp) [fx (.int .u32 a), fx (.slice A L cap), fx (.int .u32 a), sF G, fx (.agg #[.int .i64 sf, .int .u8 x0, .int .u8 x1, .int .u8 x2, .int .u8 x3, .int .u8 x4, .int .u8 x5, .int .i64 st]), sF (kp G ⟨sf, x0, x1, x2, x3, x4, x5, st⟩), bF a (kp G ⟨sf, x0, x1, x2, x3, x4, x5, st⟩), zF w.heap.size]
        (by kernel_rfl) (by kernel_rfl) (by kernel_rfl) (by kernel_rfl) ?_ ?_ ?_
      · simp only [List.mem_cons, List.not_mem_nil, or_false]
        rintro φ (rfl | rfl | rfl | rfl | rfl | rfl | rfl | rfl)
        all_goals first | exact stable_fx _ | exact stable_fr _ _ | exact stable_sF _ | exact stable_bF _ _ | exact stable_zF _
      · refine OgSteps.cons ?_ (OgSteps.cons ?_ (OgSteps.cons ?_ (OgSteps.cons ?_ (OgSteps.cons ?_ (OgSteps.cons ?_ (OgSteps.cons ?_ (OgSteps.cons ?_ (OgSteps.nil))))))))
        · refine OgStep.pure ?_ ?_
          · rfl
          intro u W hS hp
          refine ⟨.int .u32 a, ?_, rfl⟩
          simp only [ogMk, Act.put, List.setIfInBounds_toArray, List.set_cons_zero, List.set_cons_succ, Nat.zero_add, Nat.reduceAdd]
          simp [execOp, Act.eval, go_sem]
        · refine OgStep.pure ?_ ?_
          · rfl
          intro u W hS hp
          refine ⟨.slice A L cap, ?_, rfl⟩
          simp only [ogMk, Act.put, List.setIfInBounds_toArray, List.set_cons_zero, List.set_cons_succ, Nat.zero_add, Nat.reduceAdd]
          simp [execOp, Act.eval, go_sem]
        · refine OgStep.pure ?_ ?_
          · rfl
          intro u W hS hp
          refine ⟨.int .u32 a, ?_, rfl⟩
          simp only [ogMk, Act.put, List.setIfInBounds_toArray, List.set_cons_zero, List.set_cons_succ, Nat.zero_add, Nat.reduceAdd]
          simp [execOp, Act.eval, go_sem]
        · refine OgStep.calls ?_ ?_
          · rfl
          intro u W hS hp
          have h1 : u 1 = .slice A L cap := hp ⟨1, .data⟩ (by simp) rfl
          have h2 : u 2 = .int .u32 a := hp ⟨2, .data⟩ (by simp) rfl
          refine ⟨43, #[.slice A L cap, .int .u32 a], ?_, calls_sF (HOF.out W (HB2.out.trans (hS.mono HB2.out.size))) rfl⟩
          simp only [ogMk, Act.put, List.setIfInBounds_toArray, List.set_cons_zero, List.set_cons_succ, Nat.zero_add, Nat.reduceAdd]
          simp [execOp, Act.eval, go_sem, h1, h2]
        · refine OgStep.pure ?_ ?_
          · rfl
          intro u W hS hp
          obtain ⟨R0, R1, R2, R3, R4, R5, R6, R7⟩ := s_c8 (HBX.out.below hS)
          refine ⟨.agg #[.int .i64 sf, .int .u8 x0, .int .u8 x1, .int .u8 x2, .int .u8 x3, .int .u8 x4, .int .u8 x5, .int .i64 st], ?_, rfl⟩
          simp only [ogMk, Act.put, List.setIfInBounds_toArray, List.set_cons_zero, List.set_cons_succ, Nat.zero_add, Nat.reduceAdd]
          simp [execOp, Act.eval, go_sem, R0, R1, R2, R3, R4, R5, R6, R7]
        · refine OgStep.calls ?_ ?_
          · rfl
          intro u W hS hp
          obtain ⟨A3, c3, h3, hc3, _, hR3⟩ : sF G (u 3) W := hp ⟨3, .data⟩ (by simp) rfl
          have h4 : u 4 = .agg #[.int .i64 sf, .int .u8 x0, .int .u8 x1, .int .u8 x2, .int .u8 x3, .int .u8 x4, .int .u8 x5, .int .i64 st] := hp ⟨4, .data⟩ (by simp) rfl
          refine ⟨83, #[.slice A3 G.length c3, .agg #[.int .i64 sf, .int .u8 x0, .int .u8 x1, .int .u8 x2, .int .u8 x3, .int .u8 x4, .int .u8 x5, .int .i64 st]], ?_, calls_sF (HKP.out W A3 c3 hR3 hc3) rfl⟩
          simp only [ogMk, Act.put, List.setIfInBounds_toArray, List.set_cons_zero, List.set_cons_succ, Nat.zero_add, Nat.reduceAdd]
          rw [h3, h4]
          simp [execOp, Act.eval, go_sem]
        · refine OgStep.pure ?_ ?_
          · rfl
          intro u W hS hp
          obtain ⟨A5, c5, h5, hc5, hm5, hR5⟩ : sF (kp G ⟨sf, x0, x1, x2, x3, x4, x5, st⟩) (u 5) W := hp ⟨5, .data⟩ (by simp) rfl
          have h0 : u 0 = .int .u32 a := hp ⟨0, .data⟩ (by simp) rfl
          refine ⟨.agg #[.int .u32 a, .slice A5 (kp G ⟨sf, x0, x1, x2, x3, x4, x5, st⟩).length c5], ?_, ⟨A5, c5, rfl, hc5, hm5, hR5⟩⟩
          simp only [ogMk, Act.put, List.setIfInBounds_toArray, List.set_cons_zero, List.set_cons_succ, Nat.zero_add, Nat.reduceAdd]
          rw [h0, h5]
          simp [execOp, Act.eval, go_sem]
        · refine OgStep.made ?_ ?_
          · rfl
          intro u W hS hp
          refine ⟨.pointer (some ⟨W.heap.size, 0, none⟩), _, ?_, (Below.refl _ W).alloc (Nat.le_refl _) (.cells #[.int .u32 0, .slice none 0 0] 66), ⟨W.heap.size, rfl, Nat.le_trans HB2.out.size hS.size, by simp, by simp, by simp, fun j => by simp⟩⟩
          simp only [ogMk, Act.put, List.setIfInBounds_toArray, List.set_cons_zero, List.set_cons_succ, Nat.zero_add, Nat.reduceAdd]
          simp [execOp, Act.eval, go_sem]
      · intro u W hS hF
        have hF' := hF
        have e0 : u 0 = .int .u32 a := hF 0 (by decide)
        have e1 : u 1 = .slice A L cap := hF 1 (by decide)
        have e2 : u 2 = .int .u32 a := hF 2 (by decide)
        have e4 : u 4 = .agg #[.int .i64 sf, .int .u8 x0, .int .u8 x1, .int .u8 x2, .int .u8 x3, .int .u8 x4, .int .u8 x5, .int .i64 st] := hF 4 (by decide)
        simp only [ogMk, Act.put, List.setIfInBounds_toArray, List.set_cons_zero, List.set_cons_succ, Nat.zero_add, Nat.reduceAdd]
        rw [e0, e1, e2, e4]
        clear e0 e1 e2 e4 hF
        obtain ⟨A5, c5, e6, hc5, hm5, hR5⟩ : bF a (kp G ⟨sf, x0, x1, x2, x3, x4, x5, st⟩) (u 6) W := hF' 6 (by decide)
        obtain ⟨b, e7, hb1, hb2, hb3, hb4, hb5⟩ : zF w.heap.size (u 7) W := hF' 7 (by decide)
        obtain ⟨A3, c3, e3, _⟩ : sF G (u 3) W := hF' 3 (by decide)
        obtain ⟨A4, c4, e5, _⟩ : sF (kp G ⟨sf, x0, x1, x2, x3, x4, x5, st⟩) (u 5) W := hF' 5 (by decide)
        rw [e3, e5, e6, e7]
        have HW := Lib.hid (HB2.out.trans (hS.mono HB2.out.size))
        clear hF' e3 e5 e6 e7
        have hf0 := hb5 0
        have hf1 := hb5 1
        have HB4 := Lib.hid (show Below w.heap.size w ((W.setCell ⟨b, 0, none⟩ (.int .u32 a)).setCell ⟨b, 1, none⟩ (.slice A5 (kp G ⟨sf, x0, x1, x2, x3, x4, x5, st⟩).length c5)) from (HW.out.setCell hb1 _).setCell hb1 _)
        have HX := Lib.hid (show oneX b a A5 c5 (kp G ⟨sf, x0, x1, x2, x3, x4, x5, st⟩).length (kp G ⟨sf, x0, x1, x2, x3, x4, x5, st⟩) ((W.setCell ⟨b, 0, none⟩ (.int .u32 a)).setCell ⟨b, 1, none⟩ (.slice A5 (kp G ⟨sf, x0, x1, x2, x3, x4, x5, st⟩).length c5)) from one_stored hb2 hb3 hb4 hR5)
        have HK1 := Lib.hid fun W (hW : Rw eS W A5 (kp G ⟨sf, x0, x1, x2, x3, x4, x5, st⟩)) => k_one W ⟨a, A5, c5, kp G ⟨sf, x0, x1, x2, x3, x4, x5, st⟩⟩ ⟨HA.out.1, HA.out.2, hW, hc5, hm5⟩
        clear hR5 hS hb5 hm5 hc5 HBX
        go_wp2_with fail
        refine wp_region_below [fx (.slice A L cap), fx (.int .i64 (P : Int)), fx (.slice A P cap), kF T1, fx (.agg #[.int .u32 a, .slice A5 (kp G ⟨sf, x0, x1, x2, x3, x4, x5, st⟩).length c5]), kF [⟨a, (kp G ⟨sf, x0, x1, x2, x3, x4, x5, st⟩)⟩], fx (.slice (dA 2 A cap (P)) (L - (P)) (cap - (P))), kF T2, qK R, kF R, kF R, fx (.int .i64 0)]
          (by kernel_rfl) (by kernel_rfl) (by kernel_rfl) ?_ ?_ ?_
        · simp only [List.mem_cons, List.not_mem_nil, or_false]
          rintro φ (rfl | rfl | rfl | rfl | rfl | rfl | rfl | rfl | rfl | rfl | rfl | rfl)
          all_goals first | exact stable_fx _ | exact stable_fr _ _ | exact stable_kF _ | exact stable_qK _
        · refine OgSteps.cons ?_ (OgSteps.cons ?_ (OgSteps.cons ?_ (OgSteps.cons ?_ (OgSteps.cons ?_ (OgSteps.cons ?_ (OgSteps.cons ?_ (OgSteps.cons ?_ (OgSteps.cons ?_ (OgSteps.cons ?_ (OgSteps.cons ?_ (OgSteps.cons ?_ (OgSteps.nil))))))))))))
          · refine OgStep.pure ?_ ?_
            · rfl
            intro u W hS hp
            refine ⟨.slice A L cap, ?_, rfl⟩
            simp only [ogMk, Act.put, List.setIfInBounds_toArray, List.set_cons_zero, List.set_cons_succ, Nat.zero_add, Nat.reduceAdd]
            simp [execOp, Act.eval, go_sem]
          · refine OgStep.pure ?_ ?_
            · rfl
            intro u W hS hp
            refine ⟨.int .i64 (P : Int), ?_, rfl⟩
            simp only [ogMk, Act.put, List.setIfInBounds_toArray, List.set_cons_zero, List.set_cons_succ, Nat.zero_add, Nat.reduceAdd]
            simp [execOp, Act.eval, go_sem]
          · refine OgStep.pure ?_ ?_
            · rfl
            intro u W hS hp
            have h0 : u 0 = .slice A L cap := hp ⟨0, .data⟩ (by simp) rfl
            have h1 : u 1 = .int .i64 (P : Int) := hp ⟨1, .data⟩ (by simp) rfl
            have R := HSH.out W
            refine ⟨.slice A P cap, ?_, rfl⟩
            simp only [ogMk, Act.put, List.setIfInBounds_toArray, List.set_cons_zero, List.set_cons_succ, Nat.zero_add, Nat.reduceAdd]
            simp [execOp, Act.eval, go_sem, h0, h1, R]
          · refine OgStep.calls ?_ ?_
            · rfl
            intro u W hS hp
            have h2 : u 2 = .slice A P cap := hp ⟨2, .data⟩ (by simp) rfl
            refine ⟨85, #[.slice A P cap], ?_, calls_kF (HC1.out W (HB4.out.trans (hS.mono HB4.out.size))) rfl⟩
            simp only [ogMk, Act.put, List.setIfInBounds_toArray, List.set_cons_zero, List.set_cons_succ, Nat.zero_add, Nat.reduceAdd]
            simp [execOp, Act.eval, go_sem, h2]
          · refine OgStep.pure ?_ ?_
            · rfl
            intro u W hS hp
            have R0 := (oneX_below HX.out hS).1
            have R1 := (oneX_below HX.out hS).2.1
            refine ⟨.agg #[.int .u32 a, .slice A5 (kp G ⟨sf, x0, x1, x2, x3, x4, x5, st⟩).length c5], ?_, rfl⟩
            simp only [ogMk, Act.put, List.setIfInBounds_toArray, List.set_cons_zero, List.set_cons_succ, Nat.zero_add, Nat.reduceAdd]
            simp [execOp, Act.eval, go_sem, R0, R1]
          · refine OgStep.made ?_ ?_
            · rfl
            intro u W hS hp
            have h4 : u 4 = .agg #[.int .u32 a, .slice A5 (kp G ⟨sf, x0, x1, x2, x3, x4, x5, st⟩).length c5] := hp ⟨4, .data⟩ (by simp) rfl
            refine ⟨.slice (some ⟨W.heap.size, 0, none⟩) 1 1, _, ?_, (Below.refl _ W).alloc (Nat.le_refl _) _, HK1.out W (oneX_below HX.out hS).2.2⟩
            simp only [ogMk, Act.put, List.setIfInBounds_toArray, List.set_cons_zero, List.set_cons_succ, Nat.zero_add, Nat.reduceAdd]
            simp [execOp, Act.eval, go_sem, h4]
          · refine OgStep.pure ?_ ?_
            · rfl
            intro u W hS hp
            refine ⟨.slice (dA 2 A cap (P)) (L - (P)) (cap - (P)), ?_, rfl⟩
            simp only [ogMk, Act.put, List.setIfInBounds_toArray, List.set_cons_zero, List.set_cons_succ, Nat.zero_add, Nat.reduceAdd]
            simp [execOp, Act.eval, go_sem]
          · refine OgStep.calls ?_ ?_
            · rfl
            intro u W hS hp
            have h6 : u 6 = .slice (dA 2 A cap (P)) (L - (P)) (cap - (P)) := hp ⟨6, .data⟩ (by simp) rfl
            refine ⟨85, #[.slice (dA 2 A cap (P)) (L - (P)) (cap - (P))], ?_, calls_kF (HC2.out W (HB4.out.trans (hS.mono HB4.out.size))) rfl⟩
            simp only [ogMk, Act.put, List.setIfInBounds_toArray, List.set_cons_zero, List.set_cons_succ, Nat.zero_add, Nat.reduceAdd]
            simp [execOp, Act.eval, go_sem, h6]
          · refine OgStep.made ?_ ?_
            · rfl
            intro u W hS hp
            obtain ⟨A3, c3, h3, _, _, hR3⟩ : kF T1 (u 3) W := hp ⟨3, .data⟩ (by simp) rfl
            obtain ⟨A5, c5, h5, _, _, hR5⟩ : kF [⟨a, (kp G ⟨sf, x0, x1, x2, x3, x4, x5, st⟩)⟩] (u 5) W := hp ⟨5, .data⟩ (by simp) rfl
            obtain ⟨A7, c7, h7, _, _, hR7⟩ : kF T2 (u 7) W := hp ⟨7, .data⟩ (by simp) rfl
            refine ⟨.slice (some ⟨W.heap.size, 0, none⟩) 3 3, _, ?_, (Below.refl _ W).alloc (Nat.le_refl _) _, HQ.out W A3 A5 A7 c3 c5 c7 hR3 hR5 hR7⟩
            simp only [ogMk, Act.put, List.setIfInBounds_toArray, List.set_cons_zero, List.set_cons_succ, Nat.zero_add, Nat.reduceAdd]
            rw [h3, h5, h7]
            simp [execOp, Act.eval, go_sem]
          · refine OgStep.calls ?_ ?_
            · rfl
            intro u W hS hp
            obtain ⟨b, qs, e8, hl8, hPm, hct, hin⟩ : qK R (u 8) W := hp ⟨8, .data⟩ (by simp) rfl
            refine ⟨84, #[.slice (some ⟨b, 0, none⟩) 3 3], ?_, calls_kF (concat_k hl8 hPm hct hin HRL.out) rfl⟩
            simp only [ogMk, Act.put, List.setIfInBounds_toArray, List.set_cons_zero, List.set_cons_succ, Nat.zero_add, Nat.reduceAdd]
            rw [e8]
            simp [execOp, Act.eval, go_sem]
          · refine OgStep.pure ?_ ?_
            · rfl
            intro u W hS hp
            have h9 : kF R (u 9) W := hp ⟨9, .data⟩ (by simp) rfl
            refine ⟨u 9, ?_, h9⟩
            simp only [ogMk, Act.put, List.setIfInBounds_toArray, List.set_cons_zero, List.set_cons_succ, Nat.zero_add, Nat.reduceAdd]
            simp [execOp, Act.eval, go_sem]
          · refine OgStep.pure ?_ ?_
            · rfl
            intro u W hS hp
            refine ⟨.int .i64 0, ?_, rfl⟩
            simp only [ogMk, Act.put, List.setIfInBounds_toArray, List.set_cons_zero, List.set_cons_succ, Nat.zero_add, Nat.reduceAdd]
            simp [execOp, Act.eval, go_sem]
        · intro u W hS hF'
          have hF10 : kF R (u 10) W := hF' 10 (by decide)
          have hF := hF'
          have e0 : u 0 = .slice A L cap := hF 0 (by decide)
          have e1 : u 1 = .int .i64 (P : Int) := hF 1 (by decide)
          have e2 : u 2 = .slice A P cap := hF 2 (by decide)
          have e4 : u 4 = .agg #[.int .u32 a, .slice A5 (kp G ⟨sf, x0, x1, x2, x3, x4, x5, st⟩).length c5] := hF 4 (by decide)
          have e6 : u 6 = .slice (dA 2 A cap (P)) (L - (P)) (cap - (P)) := hF 6 (by decide)
          have e11 : u 11 = .int .i64 0 := hF 11 (by decide)
          simp only [ogMk, Act.put, List.setIfInBounds_toArray, List.set_cons_zero, List.set_cons_succ, Nat.zero_add, Nat.reduceAdd]
          rw [e0, e1, e2, e4, e6, e11]
          clear hF' e0 e1 e2 e4 e6 e11 hF
          go_wp2_with fail
          go_ret2
          exact ⟨_, rfl, HB4.out.trans (hS.mono HB4.out.size), hF10⟩
  · replace HQ := Lib.hid (HQ.out _ HD.out)
    replace HC2 := Lib.hid (HC2.out (lo xs a + 1))
    simp only [Bool.false_eq_true, if_false, if_true, Nat.add_zero] at HQ HPL HD
    generalize xs.take (lo xs a) = T1 at *
    generalize xs.drop (lo xs a + 1) = T2 at *
    generalize xs.length = L at *
    generalize lo xs a = P at *
    replace hI := hI rfl
    replace HSL1 := HSL1 rfl
    simp only [Int.natCast_add, Int.natCast_one] at HSL1
    generalize any G = B1 at *
    generalize tk G = K1 at *
    obtain ⟨sf, x0, x1, x2, x3, x4, x5, st⟩ := s
    simp only [sv, Sx] at HM HBB0 HLA HPL HBX0 h0 h1 HKP HKK HQ ⊢
    cases B1
    · replace h2 := h2 rfl
      clear h1
      go_enter Tryz.func37, Tryz.ntmps37
      go_wp2_with fail
      refine HM.out.mono ?_
      rintro e w1 ⟨rfl, rfl⟩
      go_wp2_with fail
      refine HLA.out.mono ?_
      rintro e w1 ⟨rfl, n1, rfl⟩
      go_wp2_with fail
      refine (HPL.out n1).mono ?_
      rintro e w2 ⟨rfl, n2, hw2⟩
      have HB2 := Lib.hid (show Below w.heap.size w w2 from hw2 ▸ bdrewN (bdrewN HBB0.out n1) n2)
      have HBX := Lib.hid (show Rw eS w2 (some ⟨w.heap.size, 0, none⟩) [⟨sf, x0, x1, x2, x3, x4, x5, st⟩] from hw2 ▸ (HBX0.out.drewN n1).drewN n2)
      clear hw2 HM HLA HPL HBX0
      go_wp2_with fail
      refine wp_region_below_end (by simp) [fx (.int .u32 a), fx (.slice A L cap), fx (.int .u32 a), sF G, fx (.agg #[.int .i64 sf, .int .u8 x0, .int .u8 x1, .int .u8 x2, .int .u8 x3, .int .u8 x4, .int .u8 x5, .int .i64 st]), sF (kp G ⟨sf, x0, x1, x2, x3, x4, x5, st⟩), bF a (kp G ⟨sf, x0, x1, x2, x3, x4, x5, st⟩), zF w.heap.size]
        (by kernel_rfl) (by kernel_rfl) (by kernel_rfl) (by kernel_rfl) ?_ ?_ ?_
      · simp only [List.mem_cons, List.not_mem_nil, or_false]
        rintro φ (rfl | rfl | rfl | rfl | rfl | rfl | rfl | rfl)
        all_goals first | exact stable_fx _ | exact stable_fr _ _ | exact stable_sF _ | exact stable_bF _ _ | exact stable_zF _
      · refine OgSteps.cons ?_ (OgSteps.cons ?_ (OgSteps.cons ?_ (OgSteps.cons ?_ (OgSteps.cons ?_ (OgSteps.cons ?_ (OgSteps.cons ?_ (OgSteps.cons ?_ (OgSteps.nil))))))))
        · refine OgStep.pure ?_ ?_
          · rfl
          intro u W hS hp
          refine ⟨.int .u32 a, ?_, rfl⟩
          simp only [ogMk, Act.put, List.setIfInBounds_toArray, List.set_cons_zero, List.set_cons_succ, Nat.zero_add, Nat.reduceAdd]
          simp [execOp, Act.eval, go_sem]
        · refine OgStep.pure ?_ ?_
          · rfl
          intro u W hS hp
          refine ⟨.slice A L cap, ?_, rfl⟩
          simp only [ogMk, Act.put, List.setIfInBounds_toArray, List.set_cons_zero, List.set_cons_succ, Nat.zero_add, Nat.reduceAdd]
          simp [execOp, Act.eval, go_sem]
        · refine OgStep.pure ?_ ?_
          · rfl
          intro u W hS hp
          refine ⟨.int .u32 a, ?_, rfl⟩
          simp only [ogMk, Act.put, List.setIfInBounds_toArray, List.set_cons_zero, List.set_cons_succ, Nat.zero_add, Nat.reduceAdd]
          simp [execOp, Act.eval, go_sem]
        · refine OgStep.calls ?_ ?_
          · rfl
          intro u W hS hp
          have h1 : u 1 = .slice A L cap := hp ⟨1, .data⟩ (by simp) rfl
          have h2 : u 2 = .int .u32 a := hp ⟨2, .data⟩ (by simp) rfl
          refine ⟨43, #[.slice A L cap, .int .u32 a], ?_, calls_sF (HOF.out W (HB2.out.trans (hS.mono HB2.out.size))) rfl⟩
          simp only [ogMk, Act.put, List.setIfInBounds_toArray, List.set_cons_zero, List.set_cons_succ, Nat.zero_add, Nat.reduceAdd]
          simp [execOp, Act.eval, go_sem, h1, h2]
        · refine OgStep.pure ?_ ?_
          · rfl
          intro u W hS hp
          obtain ⟨R0, R1, R2, R3, R4, R5, R6, R7⟩ := s_c8 (HBX.out.below hS)
          refine ⟨.agg #[.int .i64 sf, .int .u8 x0, .int .u8 x1, .int .u8 x2, .int .u8 x3, .int .u8 x4, .int .u8 x5, .int .i64 st], ?_, rfl⟩
          simp only [ogMk, Act.put, List.setIfInBounds_toArray, List.set_cons_zero, List.set_cons_succ, Nat.zero_add, Nat.reduceAdd]
          simp [execOp, Act.eval, go_sem, R0, R1, R2, R3, R4, R5, R6, R7]
        · refine OgStep.calls ?_ ?_
          · rfl
          intro u W hS hp
          obtain ⟨A3, c3, h3, hc3, _, hR3⟩ : sF G (u 3) W := hp ⟨3, .data⟩ (by simp) rfl
          have h4 : u 4 = .agg #[.int .i64 sf, .int .u8 x0, .int .u8 x1, .int .u8 x2, .int .u8 x3, .int .u8 x4, .int .u8 x5, .int .i64 st] := hp ⟨4, .data⟩ (by simp) rfl
          refine ⟨83, #[.slice A3 G.length c3, .agg #[.int .i64 sf, .int .u8 x0, .int .u8 x1, .int .u8 x2, .int .u8 x3, .int .u8 x4, .int .u8 x5, .int .i64 st]], ?_, calls_sF (HKP.out W A3 c3 hR3 hc3) rfl⟩
          simp only [ogMk, Act.put, List.setIfInBounds_toArray, List.set_cons_zero, List.set_cons_succ, Nat.zero_add, Nat.reduceAdd]
          rw [h3, h4]
          simp [execOp, Act.eval, go_sem]
        · refine OgStep.pure ?_ ?_
          · rfl
          intro u W hS hp
          obtain ⟨A5, c5, h5, hc5, hm5, hR5⟩ : sF (kp G ⟨sf, x0, x1, x2, x3, x4, x5, st⟩) (u 5) W := hp ⟨5, .data⟩ (by simp) rfl
          have h0 : u 0 = .int .u32 a := hp ⟨0, .data⟩ (by simp) rfl
          refine ⟨.agg #[.int .u32 a, .slice A5 (kp G ⟨sf, x0, x1, x2, x3, x4, x5, st⟩).length c5], ?_, ⟨A5, c5, rfl, hc5, hm5, hR5⟩⟩
          simp only [ogMk, Act.put, List.setIfInBounds_toArray, List.set_cons_zero, List.set_cons_succ, Nat.zero_add, Nat.reduceAdd]
          rw [h0, h5]
          simp [execOp, Act.eval, go_sem]
        · refine OgStep.made ?_ ?_
          · rfl
          intro u W hS hp
          refine ⟨.pointer (some ⟨W.heap.size, 0, none⟩), _, ?_, (Below.refl _ W).alloc (Nat.le_refl _) (.cells #[.int .u32 0, .slice none 0 0] 66), ⟨W.heap.size, rfl, Nat.le_trans HB2.out.size hS.size, by simp, by simp, by simp, fun j => by simp⟩⟩
          simp only [ogMk, Act.put, List.setIfInBounds_toArray, List.set_cons_zero, List.set_cons_succ, Nat.zero_add, Nat.reduceAdd]
          simp [execOp, Act.eval, go_sem]
      · intro u W hS hF
        have hF' := hF
        have e0 : u 0 = .int .u32 a := hF 0 (by decide)
        have e1 : u 1 = .slice A L cap := hF 1 (by decide)
        have e2 : u 2 = .int .u32 a := hF 2 (by decide)
        have e4 : u 4 = .agg #[.int .i64 sf, .int .u8 x0, .int .u8 x1, .int .u8 x2, .int .u8 x3, .int .u8 x4, .int .u8 x5, .int .i64 st] := hF 4 (by decide)
        simp only [ogMk, Act.put, List.setIfInBounds_toArray, List.set_cons_zero, List.set_cons_succ, Nat.zero_add, Nat.reduceAdd]
        rw [e0, e1, e2, e4]
        clear e0 e1 e2 e4 hF
        obtain ⟨A5, c5, e6, hc5, hm5, hR5⟩ : bF a (kp G ⟨sf, x0, x1, x2, x3, x4, x5, st⟩) (u 6) W := hF' 6 (by decide)
        obtain ⟨b, e7, hb1, hb2, hb3, hb4, hb5⟩ : zF w.heap.size (u 7) W := hF' 7 (by decide)
        obtain ⟨A3, c3, e3, _⟩ : sF G (u 3) W := hF' 3 (by decide)
        obtain ⟨A4, c4, e5, _⟩ : sF (kp G ⟨sf, x0, x1, x2, x3, x4, x5, st⟩) (u 5) W := hF' 5 (by decide)
        rw [e3, e5, e6, e7]
        have HW := Lib.hid (HB2.out.trans (hS.mono HB2.out.size))
        clear hF' e3 e5 e6 e7
        have hf0 := hb5 0
        have hf1 := hb5 1
        have HB4 := Lib.hid (show Below w.heap.size w ((W.setCell ⟨b, 0, none⟩ (.int .u32 a)).setCell ⟨b, 1, none⟩ (.slice A5 (kp G ⟨sf, x0, x1, x2, x3, x4, x5, st⟩).length c5)) from (HW.out.setCell hb1 _).setCell hb1 _)
        have HX := Lib.hid (show oneX b a A5 c5 (kp G ⟨sf, x0, x1, x2, x3, x4, x5, st⟩).length (kp G ⟨sf, x0, x1, x2, x3, x4, x5, st⟩) ((W.setCell ⟨b, 0, none⟩ (.int .u32 a)).setCell ⟨b, 1, none⟩ (.slice A5 (kp G ⟨sf, x0, x1, x2, x3, x4, x5, st⟩).length c5)) from one_stored hb2 hb3 hb4 hR5)
        have HK1 := Lib.hid fun W (hW : Rw eS W A5 (kp G ⟨sf, x0, x1, x2, x3, x4, x5, st⟩)) => k_one W ⟨a, A5, c5, kp G ⟨sf, x0, x1, x2, x3, x4, x5, st⟩⟩ ⟨HA.out.1, HA.out.2, hW, hc5, hm5⟩
        clear hR5 hS hb5 hm5 hc5 HBX
        go_wp2_with fail
        refine wp_region_below [fx (.slice A L cap), fx (.int .i64 (P : Int)), fx (.slice A P cap), kF T1, fx (.agg #[.int .u32 a, .slice A5 (kp G ⟨sf, x0, x1, x2, x3, x4, x5, st⟩).length c5]), kF [⟨a, (kp G ⟨sf, x0, x1, x2, x3, x4, x5, st⟩)⟩], fx (.slice (dA 2 A cap (P + 1)) (L - (P + 1)) (cap - (P + 1))), kF T2, qK R, kF R, kF R, fx (.int .i64 0)]
          (by kernel_rfl) (by kernel_rfl) (by kernel_rfl) ?_ ?_ ?_
        · simp only [List.mem_cons, List.not_mem_nil, or_false]
          rintro φ (rfl | rfl | rfl | rfl | rfl | rfl | rfl | rfl | rfl | rfl | rfl | rfl)
          all_goals first | exact stable_fx _ | exact stable_fr _ _ | exact stable_kF _ | exact stable_qK _
        · refine OgSteps.cons ?_ (OgSteps.cons ?_ (OgSteps.cons ?_ (OgSteps.cons ?_ (OgSteps.cons ?_ (OgSteps.cons ?_ (OgSteps.cons ?_ (OgSteps.cons ?_ (OgSteps.cons ?_ (OgSteps.cons ?_ (OgSteps.cons ?_ (OgSteps.cons ?_ (OgSteps.nil))))))))))))
          · refine OgStep.pure ?_ ?_
            · rfl
            intro u W hS hp
            refine ⟨.slice A L cap, ?_, rfl⟩
            simp only [ogMk, Act.put, List.setIfInBounds_toArray, List.set_cons_zero, List.set_cons_succ, Nat.zero_add, Nat.reduceAdd]
            simp [execOp, Act.eval, go_sem]
          · refine OgStep.pure ?_ ?_
            · rfl
            intro u W hS hp
            refine ⟨.int .i64 (P : Int), ?_, rfl⟩
            simp only [ogMk, Act.put, List.setIfInBounds_toArray, List.set_cons_zero, List.set_cons_succ, Nat.zero_add, Nat.reduceAdd]
            simp [execOp, Act.eval, go_sem]
          · refine OgStep.pure ?_ ?_
            · rfl
            intro u W hS hp
            have h0 : u 0 = .slice A L cap := hp ⟨0, .data⟩ (by simp) rfl
            have h1 : u 1 = .int .i64 (P : Int) := hp ⟨1, .data⟩ (by simp) rfl
            have R := HSH.out W
            refine ⟨.slice A P cap, ?_, rfl⟩
            simp only [ogMk, Act.put, List.setIfInBounds_toArray, List.set_cons_zero, List.set_cons_succ, Nat.zero_add, Nat.reduceAdd]
            simp [execOp, Act.eval, go_sem, h0, h1, R]
          · refine OgStep.calls ?_ ?_
            · rfl
            intro u W hS hp
            have h2 : u 2 = .slice A P cap := hp ⟨2, .data⟩ (by simp) rfl
            refine ⟨85, #[.slice A P cap], ?_, calls_kF (HC1.out W (HB4.out.trans (hS.mono HB4.out.size))) rfl⟩
            simp only [ogMk, Act.put, List.setIfInBounds_toArray, List.set_cons_zero, List.set_cons_succ, Nat.zero_add, Nat.reduceAdd]
            simp [execOp, Act.eval, go_sem, h2]
          · refine OgStep.pure ?_ ?_
            · rfl
            intro u W hS hp
            have R0 := (oneX_below HX.out hS).1
            have R1 := (oneX_below HX.out hS).2.1
            refine ⟨.agg #[.int .u32 a, .slice A5 (kp G ⟨sf, x0, x1, x2, x3, x4, x5, st⟩).length c5], ?_, rfl⟩
            simp only [ogMk, Act.put, List.setIfInBounds_toArray, List.set_cons_zero, List.set_cons_succ, Nat.zero_add, Nat.reduceAdd]
            simp [execOp, Act.eval, go_sem, R0, R1]
          · refine OgStep.made ?_ ?_
            · rfl
            intro u W hS hp
            have h4 : u 4 = .agg #[.int .u32 a, .slice A5 (kp G ⟨sf, x0, x1, x2, x3, x4, x5, st⟩).length c5] := hp ⟨4, .data⟩ (by simp) rfl
            refine ⟨.slice (some ⟨W.heap.size, 0, none⟩) 1 1, _, ?_, (Below.refl _ W).alloc (Nat.le_refl _) _, HK1.out W (oneX_below HX.out hS).2.2⟩
            simp only [ogMk, Act.put, List.setIfInBounds_toArray, List.set_cons_zero, List.set_cons_succ, Nat.zero_add, Nat.reduceAdd]
            simp [execOp, Act.eval, go_sem, h4]
          · refine OgStep.pure ?_ ?_
            · rfl
            intro u W hS hp
            refine ⟨.slice (dA 2 A cap (P + 1)) (L - (P + 1)) (cap - (P + 1)), ?_, rfl⟩
            simp only [ogMk, Act.put, List.setIfInBounds_toArray, List.set_cons_zero, List.set_cons_succ, Nat.zero_add, Nat.reduceAdd]
            simp [execOp, Act.eval, go_sem]
          · refine OgStep.calls ?_ ?_
            · rfl
            intro u W hS hp
            have h6 : u 6 = .slice (dA 2 A cap (P + 1)) (L - (P + 1)) (cap - (P + 1)) := hp ⟨6, .data⟩ (by simp) rfl
            refine ⟨85, #[.slice (dA 2 A cap (P + 1)) (L - (P + 1)) (cap - (P + 1))], ?_, calls_kF (HC2.out W (HB4.out.trans (hS.mono HB4.out.size))) rfl⟩
            simp only [ogMk, Act.put, List.setIfInBounds_toArray, List.set_cons_zero, List.set_cons_succ, Nat.zero_add, Nat.reduceAdd]
            simp [execOp, Act.eval, go_sem, h6]
          · refine OgStep.made ?_ ?_
            · rfl
            intro u W hS hp
            obtain ⟨A3, c3, h3, _, _, hR3⟩ : kF T1 (u 3) W := hp ⟨3, .data⟩ (by simp) rfl
            obtain ⟨A5, c5, h5, _, _, hR5⟩ : kF [⟨a, (kp G ⟨sf, x0, x1, x2, x3, x4, x5, st⟩)⟩] (u 5) W := hp ⟨5, .data⟩ (by simp) rfl
            obtain ⟨A7, c7, h7, _, _, hR7⟩ : kF T2 (u 7) W := hp ⟨7, .data⟩ (by simp) rfl
            refine ⟨.slice (some ⟨W.heap.size, 0, none⟩) 3 3, _, ?_, (Below.refl _ W).alloc (Nat.le_refl _) _, HQ.out W A3 A5 A7 c3 c5 c7 hR3 hR5 hR7⟩
            simp only [ogMk, Act.put, List.setIfInBounds_toArray, List.set_cons_zero, List.set_cons_succ, Nat.zero_add, Nat.reduceAdd]
            rw [h3, h5, h7]
            simp [execOp, Act.eval, go_sem]
          · refine OgStep.calls ?_ ?_
            · rfl
            intro u W hS hp
            obtain ⟨b, qs, e8, hl8, hPm, hct, hin⟩ : qK R (u 8) W := hp ⟨8, .data⟩ (by simp) rfl
            refine ⟨84, #[.slice (some ⟨b, 0, none⟩) 3 3], ?_, calls_kF (concat_k hl8 hPm hct hin HRL.out) rfl⟩
            simp only [ogMk, Act.put, List.setIfInBounds_toArray, List.set_cons_zero, List.set_cons_succ, Nat.zero_add, Nat.reduceAdd]
            rw [e8]
            simp [execOp, Act.eval, go_sem]
          · refine OgStep.pure ?_ ?_
            · rfl
            intro u W hS hp
            have h9 : kF R (u 9) W := hp ⟨9, .data⟩ (by simp) rfl
            refine ⟨u 9, ?_, h9⟩
            simp only [ogMk, Act.put, List.setIfInBounds_toArray, List.set_cons_zero, List.set_cons_succ, Nat.zero_add, Nat.reduceAdd]
            simp [execOp, Act.eval, go_sem]
          · refine OgStep.pure ?_ ?_
            · rfl
            intro u W hS hp
            refine ⟨.int .i64 0, ?_, rfl⟩
            simp only [ogMk, Act.put, List.setIfInBounds_toArray, List.set_cons_zero, List.set_cons_succ, Nat.zero_add, Nat.reduceAdd]
            simp [execOp, Act.eval, go_sem]
        · intro u W hS hF'
          have hF10 : kF R (u 10) W := hF' 10 (by decide)
          have hF := hF'
          have e0 : u 0 = .slice A L cap := hF 0 (by decide)
          have e1 : u 1 = .int .i64 (P : Int) := hF 1 (by decide)
          have e2 : u 2 = .slice A P cap := hF 2 (by decide)
          have e4 : u 4 = .agg #[.int .u32 a, .slice A5 (kp G ⟨sf, x0, x1, x2, x3, x4, x5, st⟩).length c5] := hF 4 (by decide)
          have e6 : u 6 = .slice (dA 2 A cap (P + 1)) (L - (P + 1)) (cap - (P + 1)) := hF 6 (by decide)
          have e11 : u 11 = .int .i64 0 := hF 11 (by decide)
          simp only [ogMk, Act.put, List.setIfInBounds_toArray, List.set_cons_zero, List.set_cons_succ, Nat.zero_add, Nat.reduceAdd]
          rw [e0, e1, e2, e4, e6, e11]
          clear hF' e0 e1 e2 e4 e6 e11 hF
          go_wp2_with fail
          go_ret2
          exact ⟨_, rfl, HB4.out.trans (hS.mono HB4.out.size), hF10⟩
    · replace h1 := h1 rfl
      clear h2
      go_enter Tryz.func37, Tryz.ntmps37
      go_wp2_with fail
      refine HM.out.mono ?_
      rintro e w1 ⟨rfl, rfl⟩
      go_wp2_with fail
      refine HLA.out.mono ?_
      rintro e w1 ⟨rfl, n1, rfl⟩
      go_wp2_with fail
      refine (HPL.out n1).mono ?_
      rintro e w2 ⟨rfl, n2, hw2⟩
      have HB2 := Lib.hid (show Below w.heap.size w w2 from hw2 ▸ bdrewN (bdrewN HBB0.out n1) n2)
      have HBX := Lib.hid (show Rw eS w2 (some ⟨w.heap.size, 0, none⟩) [⟨sf, x0, x1, x2, x3, x4, x5, st⟩] from hw2 ▸ (HBX0.out.drewN n1).drewN n2)
      clear hw2 HM HLA HPL HBX0
      go_wp2_with fail
      refine wp_region_below_end (by simp) [fx (.int .u32 a), fx (.slice A L cap), fx (.int .u32 a), sF G, fx (.agg #[.int .i64 sf, .int .u8 x0, .int .u8 x1, .int .u8 x2, .int .u8 x3, .int .u8 x4, .int .u8 x5, .int .i64 st]), sF (kp G ⟨sf, x0, x1, x2, x3, x4, x5, st⟩), bF a (kp G ⟨sf, x0, x1, x2, x3, x4, x5, st⟩), zF w.heap.size]
        (by kernel_rfl) (by kernel_rfl) (by kernel_rfl) (by kernel_rfl) ?_ ?_ ?_
      · simp only [List.mem_cons, List.not_mem_nil, or_false]
        rintro φ (rfl | rfl | rfl | rfl | rfl | rfl | rfl | rfl)
        all_goals first | exact stable_fx _ | exact stable_fr _ _ | exact stable_sF _ | exact stable_bF _ _ | exact stable_zF _
      · refine OgSteps.cons ?_ (OgSteps.cons ?_ (OgSteps.cons ?_ (OgSteps.cons ?_ (OgSteps.cons ?_ (OgSteps.cons ?_ (OgSteps.cons ?_ (OgSteps.cons ?_ (OgSteps.nil))))))))
        · refine OgStep.pure ?_ ?_
          · rfl
          intro u W hS hp
          refine ⟨.int .u32 a, ?_, rfl⟩
          simp only [ogMk, Act.put, List.setIfInBounds_toArray, List.set_cons_zero, List.set_cons_succ, Nat.zero_add, Nat.reduceAdd]
          simp [execOp, Act.eval, go_sem]
        · refine OgStep.pure ?_ ?_
          · rfl
          intro u W hS hp
          refine ⟨.slice A L cap, ?_, rfl⟩
          simp only [ogMk, Act.put, List.setIfInBounds_toArray, List.set_cons_zero, List.set_cons_succ, Nat.zero_add, Nat.reduceAdd]
          simp [execOp, Act.eval, go_sem]
        · refine OgStep.pure ?_ ?_
          · rfl
          intro u W hS hp
          refine ⟨.int .u32 a, ?_, rfl⟩
          simp only [ogMk, Act.put, List.setIfInBounds_toArray, List.set_cons_zero, List.set_cons_succ, Nat.zero_add, Nat.reduceAdd]
          simp [execOp, Act.eval, go_sem]
        · refine OgStep.calls ?_ ?_
          · rfl
          intro u W hS hp
          have h1 : u 1 = .slice A L cap := hp ⟨1, .data⟩ (by simp) rfl
          have h2 : u 2 = .int .u32 a := hp ⟨2, .data⟩ (by simp) rfl
          refine ⟨43, #[.slice A L cap, .int .u32 a], ?_, calls_sF (HOF.out W (HB2.out.trans (hS.mono HB2.out.size))) rfl⟩
          simp only [ogMk, Act.put, List.setIfInBounds_toArray, List.set_cons_zero, List.set_cons_succ, Nat.zero_add, Nat.reduceAdd]
          simp [execOp, Act.eval, go_sem, h1, h2]
        · refine OgStep.pure ?_ ?_
          · rfl
          intro u W hS hp
          obtain ⟨R0, R1, R2, R3, R4, R5, R6, R7⟩ := s_c8 (HBX.out.below hS)
          refine ⟨.agg #[.int .i64 sf, .int .u8 x0, .int .u8 x1, .int .u8 x2, .int .u8 x3, .int .u8 x4, .int .u8 x5, .int .i64 st], ?_, rfl⟩
          simp only [ogMk, Act.put, List.setIfInBounds_toArray, List.set_cons_zero, List.set_cons_succ, Nat.zero_add, Nat.reduceAdd]
          simp [execOp, Act.eval, go_sem, R0, R1, R2, R3, R4, R5, R6, R7]
        · refine OgStep.calls ?_ ?_
          · rfl
          intro u W hS hp
          obtain ⟨A3, c3, h3, hc3, _, hR3⟩ : sF G (u 3) W := hp ⟨3, .data⟩ (by simp) rfl
          have h4 : u 4 = .agg #[.int .i64 sf, .int .u8 x0, .int .u8 x1, .int .u8 x2, .int .u8 x3, .int .u8 x4, .int .u8 x5, .int .i64 st] := hp ⟨4, .data⟩ (by simp) rfl
          refine ⟨83, #[.slice A3 G.length c3, .agg #[.int .i64 sf, .int .u8 x0, .int .u8 x1, .int .u8 x2, .int .u8 x3, .int .u8 x4, .int .u8 x5, .int .i64 st]], ?_, calls_sF (HKP.out W A3 c3 hR3 hc3) rfl⟩
          simp only [ogMk, Act.put, List.setIfInBounds_toArray, List.set_cons_zero, List.set_cons_succ, Nat.zero_add, Nat.reduceAdd]
          rw [h3, h4]
          simp [execOp, Act.eval, go_sem]
        · refine OgStep.pure ?_ ?_
          · rfl
          intro u W hS hp
          obtain ⟨A5, c5, h5, hc5, hm5, hR5⟩ : sF (kp G ⟨sf, x0, x1, x2, x3, x4, x5, st⟩) (u 5) W := hp ⟨5, .data⟩ (by simp) rfl
          have h0 : u 0 = .int .u32 a := hp ⟨0, .data⟩ (by simp) rfl
          refine ⟨.agg #[.int .u32 a, .slice A5 (kp G ⟨sf, x0, x1, x2, x3, x4, x5, st⟩).length c5], ?_, ⟨A5, c5, rfl, hc5, hm5, hR5⟩⟩
          simp only [ogMk, Act.put, List.setIfInBounds_toArray, List.set_cons_zero, List.set_cons_succ, Nat.zero_add, Nat.reduceAdd]
          rw [h0, h5]
          simp [execOp, Act.eval, go_sem]
        · refine OgStep.made ?_ ?_
          · rfl
          intro u W hS hp
          refine ⟨.pointer (some ⟨W.heap.size, 0, none⟩), _, ?_, (Below.refl _ W).alloc (Nat.le_refl _) (.cells #[.int .u32 0, .slice none 0 0] 66), ⟨W.heap.size, rfl, Nat.le_trans HB2.out.size hS.size, by simp, by simp, by simp, fun j => by simp⟩⟩
          simp only [ogMk, Act.put, List.setIfInBounds_toArray, List.set_cons_zero, List.set_cons_succ, Nat.zero_add, Nat.reduceAdd]
          simp [execOp, Act.eval, go_sem]
      · intro u W hS hF
        have hF' := hF
        have e0 : u 0 = .int .u32 a := hF 0 (by decide)
        have e1 : u 1 = .slice A L cap := hF 1 (by decide)
        have e2 : u 2 = .int .u32 a := hF 2 (by decide)
        have e4 : u 4 = .agg #[.int .i64 sf, .int .u8 x0, .int .u8 x1, .int .u8 x2, .int .u8 x3, .int .u8 x4, .int .u8 x5, .int .i64 st] := hF 4 (by decide)
        simp only [ogMk, Act.put, List.setIfInBounds_toArray, List.set_cons_zero, List.set_cons_succ, Nat.zero_add, Nat.reduceAdd]
        rw [e0, e1, e2, e4]
        clear e0 e1 e2 e4 hF
        obtain ⟨A5, c5, e6, hc5, hm5, hR5⟩ : bF a (kp G ⟨sf, x0, x1, x2, x3, x4, x5, st⟩) (u 6) W := hF' 6 (by decide)
        obtain ⟨b, e7, hb1, hb2, hb3, hb4, hb5⟩ : zF w.heap.size (u 7) W := hF' 7 (by decide)
        obtain ⟨A3, c3, e3, _⟩ : sF G (u 3) W := hF' 3 (by decide)
        obtain ⟨A4, c4, e5, _⟩ : sF (kp G ⟨sf, x0, x1, x2, x3, x4, x5, st⟩) (u 5) W := hF' 5 (by decide)
        rw [e3, e5, e6, e7]
        have HW := Lib.hid (HB2.out.trans (hS.mono HB2.out.size))
        clear hF' e3 e5 e6 e7
        have hf0 := hb5 0
        have hf1 := hb5 1
        have HB4 := Lib.hid (show Below w.heap.size w ((W.setCell ⟨b, 0, none⟩ (.int .u32 a)).setCell ⟨b, 1, none⟩ (.slice A5 (kp G ⟨sf, x0, x1, x2, x3, x4, x5, st⟩).length c5)) from (HW.out.setCell hb1 _).setCell hb1 _)
        have HX := Lib.hid (show oneX b a A5 c5 (kp G ⟨sf, x0, x1, x2, x3, x4, x5, st⟩).length (kp G ⟨sf, x0, x1, x2, x3, x4, x5, st⟩) ((W.setCell ⟨b, 0, none⟩ (.int .u32 a)).setCell ⟨b, 1, none⟩ (.slice A5 (kp G ⟨sf, x0, x1, x2, x3, x4, x5, st⟩).length c5)) from one_stored hb2 hb3 hb4 hR5)
        have HK1 := Lib.hid fun W (hW : Rw eS W A5 (kp G ⟨sf, x0, x1, x2, x3, x4, x5, st⟩)) => k_one W ⟨a, A5, c5, kp G ⟨sf, x0, x1, x2, x3, x4, x5, st⟩⟩ ⟨HA.out.1, HA.out.2, hW, hc5, hm5⟩
        clear hR5 hS hb5 hm5 hc5 HBX
        go_wp2_with fail
        refine wp_region_below [fx (.slice A L cap), fx (.int .i64 (P : Int)), fx (.slice A P cap), kF T1, fx (.agg #[.int .u32 a, .slice A5 (kp G ⟨sf, x0, x1, x2, x3, x4, x5, st⟩).length c5]), kF [⟨a, (kp G ⟨sf, x0, x1, x2, x3, x4, x5, st⟩)⟩], fx (.slice (dA 2 A cap (P + 1)) (L - (P + 1)) (cap - (P + 1))), kF T2, qK R, kF R, kF R, fx (.int .i64 0)]
          (by kernel_rfl) (by kernel_rfl) (by kernel_rfl) ?_ ?_ ?_
        · simp only [List.mem_cons, List.not_mem_nil, or_false]
          rintro φ (rfl | rfl | rfl | rfl | rfl | rfl | rfl | rfl | rfl | rfl | rfl | rfl)
          all_goals first | exact stable_fx _ | exact stable_fr _ _ | exact stable_kF _ | exact stable_qK _
        · refine OgSteps.cons ?_ (OgSteps.cons ?_ (OgSteps.cons ?_ (OgSteps.cons ?_ (OgSteps.cons ?_ (OgSteps.cons ?_ (OgSteps.cons ?_ (OgSteps.cons ?_ (OgSteps.cons ?_ (OgSteps.cons ?_ (OgSteps.cons ?_ (OgSteps.cons ?_ (OgSteps.nil))))))))))))
          · refine OgStep.pure ?_ ?_
            · rfl
            intro u W hS hp
            refine ⟨.slice A L cap, ?_, rfl⟩
            simp only [ogMk, Act.put, List.setIfInBounds_toArray, List.set_cons_zero, List.set_cons_succ, Nat.zero_add, Nat.reduceAdd]
            simp [execOp, Act.eval, go_sem]
          · refine OgStep.pure ?_ ?_
            · rfl
            intro u W hS hp
            refine ⟨.int .i64 (P : Int), ?_, rfl⟩
            simp only [ogMk, Act.put, List.setIfInBounds_toArray, List.set_cons_zero, List.set_cons_succ, Nat.zero_add, Nat.reduceAdd]
            simp [execOp, Act.eval, go_sem]
          · refine OgStep.pure ?_ ?_
            · rfl
            intro u W hS hp
            have h0 : u 0 = .slice A L cap := hp ⟨0, .data⟩ (by simp) rfl
            have h1 : u 1 = .int .i64 (P : Int) := hp ⟨1, .data⟩ (by simp) rfl
            have R := HSH.out W
            refine ⟨.slice A P cap, ?_, rfl⟩
            simp only [ogMk, Act.put, List.setIfInBounds_toArray, List.set_cons_zero, List.set_cons_succ, Nat.zero_add, Nat.reduceAdd]
            simp [execOp, Act.eval, go_sem, h0, h1, R]
          · refine OgStep.calls ?_ ?_
            · rfl
            intro u W hS hp
            have h2 : u 2 = .slice A P cap := hp ⟨2, .data⟩ (by simp) rfl
            refine ⟨85, #[.slice A P cap], ?_, calls_kF (HC1.out W (HB4.out.trans (hS.mono HB4.out.size))) rfl⟩
            simp only [ogMk, Act.put, List.setIfInBounds_toArray, List.set_cons_zero, List.set_cons_succ, Nat.zero_add, Nat.reduceAdd]
            simp [execOp, Act.eval, go_sem, h2]
          · refine OgStep.pure ?_ ?_
            · rfl
            intro u W hS hp
            have R0 := (oneX_below HX.out hS).1
            have R1 := (oneX_below HX.out hS).2.1
            refine ⟨.agg #[.int .u32 a, .slice A5 (kp G ⟨sf, x0, x1, x2, x3, x4, x5, st⟩).length c5], ?_, rfl⟩
            simp only [ogMk, Act.put, List.setIfInBounds_toArray, List.set_cons_zero, List.set_cons_succ, Nat.zero_add, Nat.reduceAdd]
            simp [execOp, Act.eval, go_sem, R0, R1]
          · refine OgStep.made ?_ ?_
            · rfl
            intro u W hS hp
            have h4 : u 4 = .agg #[.int .u32 a, .slice A5 (kp G ⟨sf, x0, x1, x2, x3, x4, x5, st⟩).length c5] := hp ⟨4, .data⟩ (by simp) rfl
            refine ⟨.slice (some ⟨W.heap.size, 0, none⟩) 1 1, _, ?_, (Below.refl _ W).alloc (Nat.le_refl _) _, HK1.out W (oneX_below HX.out hS).2.2⟩
            simp only [ogMk, Act.put, List.setIfInBounds_toArray, List.set_cons_zero, List.set_cons_succ, Nat.zero_add, Nat.reduceAdd]
            simp [execOp, Act.eval, go_sem, h4]
          · refine OgStep.pure ?_ ?_
            · rfl
            intro u W hS hp
            refine ⟨.slice (dA 2 A cap (P + 1)) (L - (P + 1)) (cap - (P + 1)), ?_, rfl⟩
            simp only [ogMk, Act.put, List.setIfInBounds_toArray, List.set_cons_zero, List.set_cons_succ, Nat.zero_add, Nat.reduceAdd]
            simp [execOp, Act.eval, go_sem]
          · refine OgStep.calls ?_ ?_
            · rfl
            intro u W hS hp
            have h6 : u 6 = .slice (dA 2 A cap (P + 1)) (L - (P + 1)) (cap - (P + 1)) := hp ⟨6, .data⟩ (by simp) rfl
            refine ⟨85, #[.slice (dA 2 A cap (P + 1)) (L - (P + 1)) (cap - (P + 1))], ?_, calls_kF (HC2.out W (HB4.out.trans (hS.mono HB4.out.size))) rfl⟩
            simp only [ogMk, Act.put, List.setIfInBounds_toArray, List.set_cons_zero, List.set_cons_succ, Nat.zero_add, Nat.reduceAdd]
            simp [execOp, Act.eval, go_sem, h6]
          · refine OgStep.made ?_ ?_
            · rfl
            intro u W hS hp
            obtain ⟨A3, c3, h3, _, _, hR3⟩ : kF T1 (u 3) W := hp ⟨3, .data⟩ (by simp) rfl
            obtain ⟨A5, c5, h5, _, _, hR5⟩ : kF [⟨a, (kp G ⟨sf, x0, x1, x2, x3, x4, x5, st⟩)⟩] (u 5) W := hp ⟨5, .data⟩ (by simp) rfl
            obtain ⟨A7, c7, h7, _, _, hR7⟩ : kF T2 (u 7) W := hp ⟨7, .data⟩ (by simp) rfl
            refine ⟨.slice (some ⟨W.heap.size, 0, none⟩) 3 3, _, ?_, (Below.refl _ W).alloc (Nat.le_refl _) _, HQ.out W A3 A5 A7 c3 c5 c7 hR3 hR5 hR7⟩
            simp only [ogMk, Act.put, List.setIfInBounds_toArray, List.set_cons_zero, List.set_cons_succ, Nat.zero_add, Nat.reduceAdd]
            rw [h3, h5, h7]
            simp [execOp, Act.eval, go_sem]
          · refine OgStep.calls ?_ ?_
            · rfl
            intro u W hS hp
            obtain ⟨b, qs, e8, hl8, hPm, hct, hin⟩ : qK R (u 8) W := hp ⟨8, .data⟩ (by simp) rfl
            refine ⟨84, #[.slice (some ⟨b, 0, none⟩) 3 3], ?_, calls_kF (concat_k hl8 hPm hct hin HRL.out) rfl⟩
            simp only [ogMk, Act.put, List.setIfInBounds_toArray, List.set_cons_zero, List.set_cons_succ, Nat.zero_add, Nat.reduceAdd]
            rw [e8]
            simp [execOp, Act.eval, go_sem]
          · refine OgStep.pure ?_ ?_
            · rfl
            intro u W hS hp
            have h9 : kF R (u 9) W := hp ⟨9, .data⟩ (by simp) rfl
            refine ⟨u 9, ?_, h9⟩
            simp only [ogMk, Act.put, List.setIfInBounds_toArray, List.set_cons_zero, List.set_cons_succ, Nat.zero_add, Nat.reduceAdd]
            simp [execOp, Act.eval, go_sem]
          · refine OgStep.pure ?_ ?_
            · rfl
            intro u W hS hp
            refine ⟨.int .i64 0, ?_, rfl⟩
            simp only [ogMk, Act.put, List.setIfInBounds_toArray, List.set_cons_zero, List.set_cons_succ, Nat.zero_add, Nat.reduceAdd]
            simp [execOp, Act.eval, go_sem]
        · intro u W hS hF'
          have hF10 : kF R (u 10) W := hF' 10 (by decide)
          have hF := hF'
          have e0 : u 0 = .slice A L cap := hF 0 (by decide)
          have e1 : u 1 = .int .i64 (P : Int) := hF 1 (by decide)
          have e2 : u 2 = .slice A P cap := hF 2 (by decide)
          have e4 : u 4 = .agg #[.int .u32 a, .slice A5 (kp G ⟨sf, x0, x1, x2, x3, x4, x5, st⟩).length c5] := hF 4 (by decide)
          have e6 : u 6 = .slice (dA 2 A cap (P + 1)) (L - (P + 1)) (cap - (P + 1)) := hF 6 (by decide)
          have e11 : u 11 = .int .i64 0 := hF 11 (by decide)
          simp only [ogMk, Act.put, List.setIfInBounds_toArray, List.set_cons_zero, List.set_cons_succ, Nat.zero_add, Nat.reduceAdd]
          rw [e0, e1, e2, e4, e6, e11]
          clear hF' e0 e1 e2 e4 e6 e11 hF
          go_wp2_with fail
          go_ret2
          exact ⟨_, rfl, HB4.out.trans (hS.mono HB4.out.size), hF10⟩
end Go.Proofs.YtilneflfeegnfaaGreat.Sn
namespace Go.Proofs.YtilneflfeegnfaaGreat.Sn
open Go.RowKit
def wB (odd : Int → Bool) (a : Int) : Bool := odd a
def Ap (x : Kn) (g : Option Nat) : Prop := 0 < x.ss.length → ∀ p, x.P = some p → some p.block ≠ g
theorem kn_grown {w w' : World} {x : Kn} {row : Option Nat} (h : x.In w) (hg : w.grownBy w' row) (ha : Ap x row) : x.In w' := by
  refine ⟨h.a0, h.a1, ?_, h.le, h.max⟩
  rcases Nat.eq_zero_or_pos x.ss.length with e | e
  · rw [List.eq_nil_of_length_eq_zero e]
    exact Rw.nil _ _
  · exact h.lies.grown hg fun p hp => ha e p hp
theorem rw_lt {w : World} {p : Addr} {ss : List Sg} (h : Rw eS w (some p) ss) (hl : 0 < ss.length) : p.block < w.heap.size := by
  have := World.block_lt_of_cell? _ _ (h.at (List.getElem?_eq_getElem hl) 0 _ rfl)
  rwa [add_block, add_block] at this
theorem wpList_append_at (w : World) {ops : Array Oper} {rest : List Oper} {o : Oper} {a : Act} {Q : Exit → Act → World → Prop} (hgd : o.guard = none) (s x : Operand) (ho : o.op = .call { callee := .builtin .append, args := #[s, x], argTypes := #[31, 31] })
    (base : Nat) (v : Value) (n : Nat) (xs : List Kn) (hs : a.eval s = v) (hown : w.ownsRow base 66 2 v n (eK.cs xs)) (A : Option Addr) (c : Nat) (y : Kn) (hx : a.eval x = .slice A 1 c) (hr : Rw eK w A [y])
    (hlen : n + 1 ≤ 1000000) (hbase : base ≤ w.heap.size)
    (h : ∀ v' w', w'.ownsRow base 66 2 v' (n + 1) (eK.cs (xs ++ [y])) → w.grownBy w' v.ownBlock → (v'.ownBlock = v.ownBlock ∨ v'.ownBlock = some w.heap.size) → wpList Tryz.prog ops Q rest (a.put o.dst v') w') : wpList Tryz.prog ops Q (o :: rest) a w := by
  obtain ⟨A, rfl⟩ := rw_some hr (by simp)
  obtain ⟨i, z, b, hi, hz0, hz1, hz2, hz3, hb⟩ := tK.info
  refine wpList_append_own_at w hgd s x 31 ho base 66 i z 2 b tK.sl hi hz0 hz1 hz2 hz3 (by decide) v n (eK.cs xs) hs hown A 1 c (eK.cs [y]) hx (by rw [cs_length]; rfl) hr.cells (cs_one _) (by unfold maxLen; omega)
    (Nat.le_trans (Nat.mul_le_mul hlen hb) (by omega)) hbase ?_
  intro v' w' h1 h2 _ h3
  rw [← cs_append] at h1
  exact h v' w' h1 h2 h3
def sG (B : Nat) (ss : List Sg) : Value → World → Prop := fun v W => ∃ A c, v = .slice A ss.length c ∧ ss.length ≤ c ∧ c ≤ maxLen ∧ Rw eS W A ss ∧ ∀ p, A = some p → B ≤ p.block
theorem stable_sG (B : Nat) (ss : List Sg) : Stable (sG B ss) := fun _ _ _ ⟨A, c, h1, h2, h3, h4, h5⟩ hb => ⟨A, c, h1, h2, h3, h4.below hb, h5⟩
def bG (B : Nat) (a : Int) (ss : List Sg) : Value → World → Prop := fun v W => ∃ A c, v = .agg #[.int .u32 a, .slice A ss.length c] ∧ ss.length ≤ c ∧ c ≤ maxLen ∧ Rw eS W A ss ∧ ∀ p, A = some p → B ≤ p.block
theorem stable_bG (B : Nat) (a : Int) (ss : List Sg) : Stable (bG B a ss) := fun _ _ _ ⟨A, c, h1, h2, h3, h4, h5⟩ hb => ⟨A, c, h1, h2, h3, h4.below hb, h5⟩
def kG (B : Nat) (a : Int) (ss : List Sg) : Value → World → Prop := fun v W => ∃ (A : Option Addr) (c : Nat) (y : Kn), v = .slice A 1 c ∧ Rw eK W A [y] ∧ y.In W ∧ y.p = ⟨a, ss⟩ ∧ ∀ p, y.P = some p → B ≤ p.block
theorem stable_kG (B : Nat) (a : Int) (ss : List Sg) : Stable (kG B a ss) := fun _ _ _ ⟨A, c, y, h1, h2, h3, h4, h5⟩ hb => ⟨A, c, y, h1, h2.below hb, h3.below hb, h4, h5⟩
theorem calls_sG {B : Nat} {args : Array Value} {f : FuncId} {W : World} {ss : List Sg} {Φ : List (Value → World → Prop)} {i : Nat} (h : Calls Tryz.prog f args W (OwnPost eS 49 W ss)) (hB : B ≤ W.heap.size) (hl : ss.length ≤ 1000000) (hi : fAt Φ i = sG B ss) : Calls Tryz.prog f args W fun e w' => ∃ v, e = .returned v ∧ Below W.heap.size W w' ∧ fAt Φ i v w' := by
  rw [hi]
  refine h.mono ?_
  rintro e w' ⟨v, rfl, ho, hb⟩
  obtain ⟨A, c, rfl, h1, h2, _, h3, h4⟩ := own_rw (E := eS) ho (by omega)
  exact ⟨_, rfl, hb, A, c, rfl, h1, h2, h3, fun p hp => Nat.le_trans hB (h4 p hp).1⟩
theorem rwK_one (W : World) (x : Kn) : Rw eK (W.alloc (.cells #[.int .u32 x.a, .slice x.P x.ss.length x.c] 66)) (some ⟨W.heap.size, 0, none⟩) [x] := by
  refine ⟨by simp, fun q z hq => ?_⟩
  match q, hq with
  | 0, hq =>
    simp at hq
    subst hq
    refine ⟨_, rfl, fun j v hv => ?_⟩
    rw [Addr.add_mid]
    change (kl x)[j]? = some v at hv
    show (W.alloc _).cell? ⟨W.heap.size, 0 + (0 * 2 + j), none⟩ = _
    match j, hv with
    | 0, h => simp [kl] at h; subst h; simp
    | 1, h => simp [kl] at h; subst h; simp
    | j + 2, h => simp [kl] at h
  | q + 1, hq => simp at hq
theorem bthen {B : Nat} {a b c : World} (h : Below B a b) (k : Below b.heap.size b c) (hB : B ≤ b.heap.size) : Below B a c := h.trans (k.mono hB)
structure Fg (w : World) (ps : List Kp) (odd : Int → Bool) (k : Nat) (v : Value) (n : Nat) (ys : List Kn) (wr : World) : Prop where
  own : wr.ownsRow w.heap.size 66 2 v n (eK.cs ys)
  len : ys.length = n
  row : ys.map Kn.p = (ps.take k).filter fun x => wB odd x.a
  ins : ∀ y ∈ ys, y.In wr ∧ Ap y v.ownBlock
  bel : Below w.heap.size w wr
theorem Fg.below {w wr w' : World} {ps : List Kp} {odd : Int → Bool} {k n : Nat} {v : Value} {ys : List Kn} (h : Fg w ps odd k v n ys wr) (hb : Below wr.heap.size wr w') : Fg w ps odd k v n ys w' :=
  ⟨own_keep h.own hb, h.len, h.row, fun y hy => ⟨(h.ins y hy).1.below hb, (h.ins y hy).2⟩, bthen h.bel hb h.bel.size⟩
theorem Fg.no {w wr : World} {ps : List Kp} {odd : Int → Bool} {k n : Nat} {v : Value} {ys : List Kn} (h : Fg w ps odd k v n ys wr) {x : Kp} (hx : ps[k]? = some x) (hw : wB odd x.a = false) : Fg w ps odd (k + 1) v n ys wr :=
  ⟨h.own, h.len, by rw [List.take_add_one, hx, List.filter_append, h.row]; simp [hw], h.ins, h.bel⟩
theorem Fg.yes {w w1 wr w' : World} {ps : List Kp} {odd : Int → Bool} {k n : Nat} {v v' : Value} {ys : List Kn} (h : Fg w ps odd k v n ys w1) (hb : Below w1.heap.size w1 wr) {x : Kp} (hx : ps[k]? = some x) (hw : wB odd x.a = true) {y : Kn} (hy : y.In wr) (hyp : y.p = x) (hyb : ∀ p, y.P = some p → w1.heap.size ≤ p.block)
    (ho : w'.ownsRow w.heap.size 66 2 v' (n + 1) (eK.cs (ys ++ [y]))) (hg : wr.grownBy w' v.ownBlock) (hat : v'.ownBlock = v.ownBlock ∨ v'.ownBlock = some wr.heap.size) : Fg w ps odd (k + 1) v' (n + 1) (ys ++ [y]) w' := by
  have h2 := h.below hb
  have hsz := h2.bel.size
  have hlt : ∀ g, v.ownBlock = some g → w.heap.size ≤ g ∧ g < w1.heap.size := fun g hgv => h.own.lt g hgv
  have hins : ∀ z ∈ ys ++ [y], z.In wr ∧ Ap z v.ownBlock := by
    intro z hz
    rcases List.mem_append.1 hz with hz | hz
    · exact h2.ins z hz
    · simp at hz
      subst hz
      refine ⟨hy, fun _ p hp e => ?_⟩
      have h3 := hyb p hp
      have h4 := (hlt _ e.symm).2
      omega
  refine ⟨ho, by rw [List.length_append, h.len]; rfl, ?_, fun z hz => ?_, h2.bel.grown hg hsz fun j hj => (hlt j hj).1⟩
  · rw [List.map_append, h.row, List.take_add_one, hx, List.filter_append]
    simp [hw, hyp]
  · obtain ⟨h3, h4⟩ := hins z hz
    refine ⟨kn_grown h3 hg h4, fun hl p hp => ?_⟩
    rcases hat with e | e
    · rw [e]; exact h4 hl p hp
    · rw [e]
      intro e'
      have h5 := h3.lies
      rw [hp] at h5
      have := rw_lt h5 hl
      injection e' with e'
      omega
set_option maxRecDepth 100000 in
set_option maxHeartbeats 4000000 in
theorem forget_any (odd : Int → Bool) (g : FuncId) (es : Array Value) (hge : ∀ args W, (callFunc g args).run Tryz.prog W = .ok (.enter g args) W) (A : Option Addr) (ps : List Kp) (cap : Nat) (w : World) (h : Ks w A ps) (hcap : ps.length ≤ cap) (hbd : Bd ps) (hw : ∀ x ∈ ps, ∀ W, Below w.heap.size w W → Calls Tryz.prog g (#[.int .u32 x.a] ++ es) W fun e w' => e = .returned (.bool (odd x.a)) ∧ Below W.heap.size W w') :
    Calls Tryz.prog 99 #[.slice A ps.length cap, .func (.func g) #[] es] w (KPost w (ps.filter fun x => wB odd x.a)) := by
  have hln := h.len
  have R := Lib.hid h
  have HBD := Lib.hid hbd
  have HWC := Lib.hid hw
  have HGE := Lib.hid hge
  obtain ⟨L, hL⟩ : ∃ L, ps.length = L := ⟨_, rfl⟩
  have HL := Lib.hid hL
  rw [hL] at hcap hln ⊢
  have hL9 : L ≤ 1000 := by rw [← hL]; exact hbd.1
  clear h hbd hw hge hL
  go_enter Tryz.func99, Tryz.ntmps99
  go_wp2_with fail
  go_loopw [5, 10] (fun v i wr => ∃ (k n : Nat) (ys : List Kn), i = .int .i64 k ∧ k ≤ L ∧ n ≤ k ∧ Hid (Fg w ps odd k v n ys wr)) (fun _ i _ => L - (intOf i).toNat)
  case atStart => exact ⟨0, 0, [], rfl, by omega, by omega, Lib.hid ⟨World.ownsRow_nil _ _ _ _, rfl, by simp, fun y hy => by simp at hy, Below.refl _ _⟩⟩
  case round =>
    obtain ⟨k, n, ys, rfl, hk, hnk, HH⟩ := hrel
    by_cases hlt : k < L
    · obtain ⟨x, hx⟩ : ∃ x, ps[k]? = some x := ⟨_, List.getElem?_eq_getElem (by rw [HL.out]; exact hlt)⟩
      obtain ⟨y, P, c, rfl, hin, hat⟩ := (R.out.below HH.out.bel).kn hx
      have hA1 : Below wr.heap.size wr (wr.alloc (.cells #[.int .u32 x.a, .slice P x.ss.length c] 66)) := (Below.refl _ wr).alloc (Nat.le_refl _) _
      have HF1 := Lib.hid (HH.out.below hA1)
      have HX := Lib.hid (show oneX wr.heap.size x.a P c x.ss.length x.ss (wr.alloc (.cells #[.int .u32 x.a, .slice P x.ss.length c] 66)) from ⟨by simp, by simp, by simp, hin.lies.below hA1⟩)
      have hxl : x.ss.length ≤ 1000000 := Nat.le_trans (HBD.out.2 x (List.mem_of_getElem? hx)) (by omega)
      have HCL := Lib.hid fun W (hW : Rw eS W P x.ss) => cloneS_any P x.ss c W hW hxl hin.le
      have HWN := Lib.hid (HWC.out x (List.mem_of_getElem? hx) _ (hA1.mono HH.out.bel.size |> HH.out.bel.trans))
      have HXA := Lib.hid (show 0 ≤ x.a ∧ x.a < 4294967296 from ⟨hin.a0, hin.a1⟩)
      have HXL := Lib.hid hxl
      have HKX := Lib.hid hx
      obtain ⟨WB, hWB⟩ : ∃ WB, odd x.a = WB := ⟨_, rfl⟩
      have HWB := Lib.hid hWB
      rw [hWB] at HWN
      obtain ⟨xa, xs⟩ := x
      dsimp only at HF1 HX HCL HWN HXA HXL HWB
      clear hin hx hxl hA1 HH hWB
      go_wp2_with (refine at_load53 _ rfl rfl _ _ rfl hat ?_)
      have HNX := Lib.hid (show wr.heap.size < (wr.alloc (.cells #[.int .u32 xa, .slice P xs.length c] 66)).heap.size by simp)
      generalize wr.alloc (.cells #[.int .u32 xa, .slice P xs.length c] 66) = W1 at *
      generalize wr.heap.size = NN at *
      obtain ⟨M, hM⟩ : ∃ M, xs.length = M := ⟨_, rfl⟩
      have HM := Lib.hid hM
      rw [hM] at HX HCL ⊢
      clear hM hat
      rw [HGE.out, Oper.upon_enter]
      refine HWN.out.mono ?_
      rintro e w2 ⟨rfl, hb2⟩
      replace HF1 := Lib.hid (HF1.out.below hb2)
      replace HX := Lib.hid (show oneX NN xa P c M xs w2 from ⟨Nat.lt_of_lt_of_le HX.out.1 hb2.size, oneX_below HX.out hb2⟩)
      replace HNX := Lib.hid (Nat.lt_of_lt_of_le HNX.out hb2.size)
      clear HWN hb2
      cases WB
      · go_wp2_with fail
        go_roundw
        case rel => exact ⟨k + 1, n, ys, by go_num, by omega, by omega, Lib.hid (HF1.out.no HKX.out HWB.out)⟩
        case measure => simp [intOf]; omega
      · go_wp2_with fail
        refine wp_region_below_tail 8 [fx u5, fx (.pointer (some ⟨NN, 0, none⟩)), fx (.int .u32 xa), fx (.pointer (some ⟨NN, 1, none⟩)), fx (.slice P M c), sG w2.heap.size xs, bG w2.heap.size xa xs, kG w2.heap.size xa xs]
          (by kernel_rfl) (by simp) (by kernel_rfl) (by kernel_rfl) (by kernel_rfl) ?_ ?_ ?_
        · simp only [List.mem_cons, List.not_mem_nil, or_false]
          rintro φ (rfl | rfl | rfl | rfl | rfl | rfl | rfl | rfl)
          all_goals first | exact stable_fx _ | exact stable_fr _ _ | exact stable_sG _ _ | exact stable_bG _ _ _ | exact stable_kG _ _ _
        · refine OgSteps.cons ?_ (OgSteps.cons ?_ (OgSteps.cons ?_ (OgSteps.cons ?_ (OgSteps.cons ?_ (OgSteps.cons ?_ (OgSteps.cons ?_ (OgSteps.cons ?_ (OgSteps.nil))))))))
          · refine OgStep.pure ?_ ?_
            · rfl
            intro u W hS hp
            refine ⟨u5, ?_, rfl⟩
            simp only [ogMk, Act.put, List.setIfInBounds_toArray, List.set_cons_zero, List.set_cons_succ, Nat.zero_add, Nat.reduceAdd, List.take_succ_cons, List.take_zero, List.drop_succ_cons, List.drop_zero]
            simp [execOp, Act.eval, go_sem]
          · refine OgStep.pure ?_ ?_
            · rfl
            intro u W hS hp
            refine ⟨.pointer (some ⟨NN, 0, none⟩), ?_, rfl⟩
            simp only [ogMk, Act.put, List.setIfInBounds_toArray, List.set_cons_zero, List.set_cons_succ, Nat.zero_add, Nat.reduceAdd, List.take_succ_cons, List.take_zero, List.drop_succ_cons, List.drop_zero]
            simp [execOp, Act.eval, go_sem]
          · refine OgStep.pure ?_ ?_
            · rfl
            intro u W hS hp
            have h1 : u 1 = .pointer (some ⟨NN, 0, none⟩) := hp ⟨1, .data⟩ (by simp) rfl
            have X := oneX_below HX.out hS
            have R := X.1
            refine ⟨.int .u32 xa, ?_, rfl⟩
            simp only [ogMk, Act.put, List.setIfInBounds_toArray, List.set_cons_zero, List.set_cons_succ, Nat.zero_add, Nat.reduceAdd, List.take_succ_cons, List.take_zero, List.drop_succ_cons, List.drop_zero]
            simp [execOp, Act.eval, go_sem, h1, R]
          · refine OgStep.pure ?_ ?_
            · rfl
            intro u W hS hp
            refine ⟨.pointer (some ⟨NN, 1, none⟩), ?_, rfl⟩
            simp only [ogMk, Act.put, List.setIfInBounds_toArray, List.set_cons_zero, List.set_cons_succ, Nat.zero_add, Nat.reduceAdd, List.take_succ_cons, List.take_zero, List.drop_succ_cons, List.drop_zero]
            simp [execOp, Act.eval, go_sem]
          · refine OgStep.pure ?_ ?_
            · rfl
            intro u W hS hp
            have h3 : u 3 = .pointer (some ⟨NN, 1, none⟩) := hp ⟨3, .data⟩ (by simp) rfl
            have X := oneX_below HX.out hS
            have R := X.2.1
            refine ⟨.slice P M c, ?_, rfl⟩
            simp only [ogMk, Act.put, List.setIfInBounds_toArray, List.set_cons_zero, List.set_cons_succ, Nat.zero_add, Nat.reduceAdd, List.take_succ_cons, List.take_zero, List.drop_succ_cons, List.drop_zero]
            simp [execOp, Act.eval, go_sem, h3, R]
          · refine OgStep.calls ?_ ?_
            · rfl
            intro u W hS hp
            have h4 : u 4 = .slice P M c := hp ⟨4, .data⟩ (by simp) rfl
            refine ⟨53, #[.slice P M c], ?_, calls_sG (HCL.out W (oneX_below HX.out hS).2.2) hS.size HXL.out rfl⟩
            simp only [ogMk, Act.put, List.setIfInBounds_toArray, List.set_cons_zero, List.set_cons_succ, Nat.zero_add, Nat.reduceAdd, List.take_succ_cons, List.take_zero, List.drop_succ_cons, List.drop_zero]
            simp [execOp, Act.eval, go_sem, h4]
          · refine OgStep.pure ?_ ?_
            · rfl
            intro u W hS hp
            obtain ⟨A5, c5, h5, hc5, hm5, hR5, hp5⟩ : sG w2.heap.size xs (u 5) W := hp ⟨5, .data⟩ (by simp) rfl
            have h2 : u 2 = .int .u32 xa := hp ⟨2, .data⟩ (by simp) rfl
            refine ⟨.agg #[.int .u32 xa, .slice A5 xs.length c5], ?_, ⟨A5, c5, rfl, hc5, hm5, hR5, hp5⟩⟩
            simp only [ogMk, Act.put, List.setIfInBounds_toArray, List.set_cons_zero, List.set_cons_succ, Nat.zero_add, Nat.reduceAdd, List.take_succ_cons, List.take_zero, List.drop_succ_cons, List.drop_zero]
            rw [h2, h5]
            simp [execOp, Act.eval, go_sem]
          · refine OgStep.made ?_ ?_
            · rfl
            intro u W hS hp
            obtain ⟨A6, c6, h6, hc6, hm6, hR6, hp6⟩ : bG w2.heap.size xa xs (u 6) W := hp ⟨6, .data⟩ (by simp) rfl
            have hI : (⟨xa, A6, c6, xs⟩ : Kn).In W := ⟨HXA.out.1, HXA.out.2, hR6, hc6, hm6⟩
            refine ⟨.slice (some ⟨W.heap.size, 0, none⟩) 1 1, _, ?_, (Below.refl _ W).alloc (Nat.le_refl _) _, ⟨_, _, ⟨xa, A6, c6, xs⟩, rfl, rwK_one W ⟨xa, A6, c6, xs⟩, hI.below ((Below.refl _ W).alloc (Nat.le_refl _) _), rfl, hp6⟩⟩
            simp only [ogMk, Act.put, List.setIfInBounds_toArray, List.set_cons_zero, List.set_cons_succ, Nat.zero_add, Nat.reduceAdd, List.take_succ_cons, List.take_zero, List.drop_succ_cons, List.drop_zero]
            rw [h6]
            simp [execOp, Act.eval, go_sem]
        · intro u W hS hF'
          have hF := hF'
          have e0 : u 0 = u5 := hF 0 (by decide)
          have e1 : u 1 = .pointer (some ⟨NN, 0, none⟩) := hF 1 (by decide)
          have e2 : u 2 = .int .u32 xa := hF 2 (by decide)
          have e3 : u 3 = .pointer (some ⟨NN, 1, none⟩) := hF 3 (by decide)
          have e4 : u 4 = .slice P M c := hF 4 (by decide)
          simp only [ogMk, Act.put, List.setIfInBounds_toArray, List.set_cons_zero, List.set_cons_succ, Nat.zero_add, Nat.reduceAdd, List.take_succ_cons, List.take_zero, List.drop_succ_cons, List.drop_zero]
          rw [e0, e1, e2, e3, e4]
          clear e0 e1 e2 e3 e4 hF
          obtain ⟨A7, c7, z, e7, hR7, hz7, hp7, hb7⟩ : kG w2.heap.size xa xs (u 7) W := hF' 7 (by decide)
          obtain ⟨A6, c6, e6, _⟩ : bG w2.heap.size xa xs (u 6) W := hF' 6 (by decide)
          obtain ⟨A5, c5, e5, _⟩ : sG w2.heap.size xs (u 5) W := hF' 5 (by decide)
          rw [e5, e6, e7]
          have HS := Lib.hid hS
          have HR7 := Lib.hid (show Rw eK W A7 [z] ∧ z.In W ∧ z.p = ⟨xa, xs⟩ ∧ (∀ p, z.P = some p → w2.heap.size ≤ p.block) from ⟨hR7, hz7, hp7, hb7⟩)
          have HF2 := Lib.hid (HF1.out.below hS)
          clear hF' e5 e6 e7 hS hR7 hz7 hp7 hb7
          refine wpList_append_at W rfl (.tmp 18) (.tmp 25) rfl w.heap.size u5 n ys (by simp [Act.eval, Act.put]) HF2.out.own A7 c7 z (by simp [Act.eval, Act.put]) HR7.out.1 (by omega) HF2.out.bel.size ?_
          intro v3 w3 ho3 hg3 hat3
          have HF3 := Lib.hid (HF1.out.yes HS.out HKX.out HWB.out HR7.out.2.1 HR7.out.2.2.1 HR7.out.2.2.2 ho3 hg3 hat3)
          clear ho3 hg3 hat3 HF2 HS HR7 HF1 HX HCL
          go_wp2_with fail
          go_roundw
          case rel => exact ⟨k + 1, n + 1, ys ++ [z], by go_num, by omega, by omega, HF3⟩
          case measure => simp [intOf]; omega
    · obtain rfl : k = L := by omega
      have hF := HH.out
      have htk : ps.take k = ps := by rw [← HL.out, List.take_length]
      have hrow : ys.map Kn.p = ps.filter fun x => wB odd x.a := by rw [hF.row, htk]
      have hyl : ys.length = (ps.filter fun x => wB odd x.a).length := by rw [← hrow, List.length_map]
      obtain ⟨A3, c3, he, hc3, hm3, -, hr3, -⟩ := own_rw (E := eK) hF.own (by rw [hF.len]; omega)
      have HFN := Lib.hid (show kF (ps.filter fun x => wB odd x.a) u5 wr from ⟨A3, c3, by rw [he, hyl], by omega, hm3, ys, hrow, hr3, fun y hy => (hF.ins y hy).1⟩)
      have HB := Lib.hid hF.bel
      clear hF htk hrow hyl he hc3 hm3 hr3
      go_wp2_with fail
      go_ret
      exact ⟨_, rfl, HB.out, HFN.out⟩
end Go.Proofs.YtilneflfeegnfaaGreat.Sn
namespace Go.Proofs.YtilneflfeegnfaaGreat.Sn
open Go.RowKit
instance : DecidableEq Sg := fun x y => if h : eqs x y = true then .isTrue ((eqs_iff x y).1 h) else .isFalse fun e => h ((eqs_iff x y).2 e)
def pt (ss : List Sg) : Nat → Int
  | 0 => 0
  | i + 1 => (ss[i]?.getD zs).t
def sOk (ss : List Sg) (i : Nat) : Bool := match ss[i]? with
  | some x => isrc x.f && decide (pt ss i ≤ x.t)
  | none => true
def rsP (ss : List Sg) (k : Nat) : Bool := (List.range k).all (sOk ss)
def rsB (ss : List Sg) : Bool := decide (1 ≤ ss.length ∧ ss.length ≤ 8) && rsP ss ss.length
theorem rsP_zero (ss : List Sg) : rsP ss 0 = true := rfl
theorem rsP_succ (ss : List Sg) (k : Nat) : rsP ss (k + 1) = (rsP ss k && sOk ss k) := by
  unfold rsP
  rw [List.range_succ, List.all_append]
  simp
theorem rsP_false (ss : List Sg) (k n : Nat) (h : rsP ss k = false) (hk : k ≤ n) : rsP ss n = false := by
  induction hk with
  | refl => exact h
  | step h1 ih => rw [rsP_succ, ih]; rfl
set_option maxRecDepth 100000 in
set_option maxHeartbeats 4000000 in
theorem rights_any (A : Option Addr) (ss : List Sg) (c : Nat) (w : World) (h : Rw eS w A ss) (hc : ss.length ≤ c) :
    Calls Tryz.prog 86 #[.slice A ss.length c] w fun e w' => e = .returned (.bool (rsB ss)) ∧ Below w.heap.size w w' := by
  have hln := h.1
  have R := Lib.hid h
  by_cases hl : 1 ≤ ss.length ∧ ss.length ≤ 8
  · have HF := Lib.hid (show rsB ss = rsP ss ss.length by simp [rsB, hl.1, hl.2])
    obtain ⟨L, hL⟩ : ∃ L, ss.length = L := ⟨_, rfl⟩
    have HL := Lib.hid hL
    rw [hL] at hc hln HF hl ⊢
    have hl0 : ¬ (L : Int) = 0 := by omega
    have hl8 : ¬ (8 : Int) < L := by omega
    clear hL h
    go_enter Tryz.func86, Tryz.ntmps86
    go_wp2_with fail
    go_loopw [3, 16] (fun v i wr => ∃ k : Nat, i = .int .i64 k ∧ k ≤ L ∧ v = .int .i64 (pt ss k) ∧ Hid (rsP ss k = true ∧ Below w.heap.size w wr)) (fun _ i _ => L - (intOf i).toNat)
    case atStart => exact ⟨0, rfl, by omega, rfl, Lib.hid ⟨rsP_zero _, Below.refl _ _⟩⟩
    case round =>
      obtain ⟨k, rfl, hk, rfl, HH⟩ := hrel
      by_cases hlt : k < L
      · obtain ⟨x, hx⟩ : ∃ x, ss[k]? = some x := ⟨_, List.getElem?_eq_getElem (by rw [HL.out]; exact hlt)⟩
        obtain ⟨y, rfl⟩ := rw_some R.out (by rw [HL.out]; omega)
        have hat : ∀ j v, (sl x)[j]? = some v → wr.cell? ((y.add (k * 8)).add j) = some v := (R.out.below HH.out.2).at hx
        have HS := Lib.hid (rsP_succ ss k)
        have HN := Lib.hid (rsP_false ss (k + 1) L)
        have HM := Lib.hid fun W => src_any x.f W
        have HP1 := Lib.hid (show pt ss (k + 1) = x.t by simp [pt, hx])
        have hO : sOk ss k = (isrc x.f && decide (pt ss k ≤ x.t)) := by simp [sOk, hx]
        generalize pt ss k = T at *
        cases hY : isrc x.f
        · have HO := Lib.hid (show sOk ss k = false by rw [hO, hY]; rfl)
          rw [hY] at HM
          obtain ⟨xf, x0, x1, x2, x3, x4, x5, xt⟩ := x
          clear hx hY hO
          go_wp2_with (refine at_load35 _ rfl rfl _ _ rfl hat ?_)
          refine (HM.out _).mono ?_
          rintro e w1 ⟨rfl, rfl⟩
          go_wp2_with fail
          go_ret
          exact ⟨ret_bool (by rw [HF.out, HN.out (by rw [HS.out, HO.out]; simp) (by omega)]), HH.out.2.alloc HH.out.2.size _⟩
        · rw [hY] at HM
          by_cases ht : x.t < T
          · have HO := Lib.hid (show sOk ss k = false by rw [hO, hY]; simp; omega)
            obtain ⟨xf, x0, x1, x2, x3, x4, x5, xt⟩ := x
            dsimp only at ht
            clear hx hY hO
            go_wp2_with (refine at_load35 _ rfl rfl _ _ rfl hat ?_)
            refine (HM.out _).mono ?_
            rintro e w1 ⟨rfl, rfl⟩
            go_wp2_with fail
            go_ret
            exact ⟨ret_bool (by rw [HF.out, HN.out (by rw [HS.out, HO.out]; simp) (by omega)]), HH.out.2.alloc HH.out.2.size _⟩
          · have HO := Lib.hid (show sOk ss k = true by rw [hO, hY]; simp; omega)
            obtain ⟨xf, x0, x1, x2, x3, x4, x5, xt⟩ := x
            dsimp only at ht HP1
            clear hx hY hO
            go_wp2_with (refine at_load35 _ rfl rfl _ _ rfl hat ?_)
            refine (HM.out _).mono ?_
            rintro e w1 ⟨rfl, rfl⟩
            go_wp2_with fail
            go_roundw
            case rel => exact ⟨k + 1, by go_num, by omega, by rw [HP1.out], Lib.hid ⟨by rw [HS.out, HH.out.1, HO.out]; rfl, HH.out.2.alloc HH.out.2.size _⟩⟩
            case measure => simp [intOf]; omega
      · obtain rfl : k = L := by omega
        go_wp2_with fail
        go_ret
        exact ⟨ret_bool (by rw [HF.out, HH.out.1]), HH.out.2⟩
  · have HF := Lib.hid (show rsB ss = false by simp only [rsB, hl, decide_false, Bool.false_and])
    have hl2 : (ss.length : Int) = 0 ∨ ¬ (ss.length : Int) = 0 ∧ (8 : Int) < ss.length := by omega
    clear hl h
    generalize ss.length = L at *
    rcases hl2 with h0 | ⟨h0, h8⟩
    · go_enter Tryz.func86, Tryz.ntmps86
      go_wp2_with fail
      go_ret
      exact ⟨ret_bool HF.out.symm, Below.refl _ _⟩
    · go_enter Tryz.func86, Tryz.ntmps86
      go_wp2_with fail
      go_ret
      exact ⟨ret_bool HF.out.symm, Below.refl _ _⟩
end Go.Proofs.YtilneflfeegnfaaGreat.Sn
namespace Go.Proofs.YtilneflfeegnfaaGreat.Sn
open Go.RowKit
def kOk (ps : List Kp) (i : Nat) : Bool := match ps[i]? with
  | some x => (i == 0 || (match ps[i - 1]? with
    | some y => decide (y.a < x.a)
    | none => false)) && rsB x.ss
  | none => true
def kPre (ps : List Kp) (k : Nat) : Bool := (List.range k).all (kOk ps)
def rightB (ps : List Kp) : Bool := decide (ps.length ≤ 96) && kPre ps ps.length
theorem kPre_zero (ps : List Kp) : kPre ps 0 = true := rfl
theorem kPre_succ (ps : List Kp) (k : Nat) : kPre ps (k + 1) = (kPre ps k && kOk ps k) := by
  unfold kPre
  rw [List.range_succ, List.all_append]
  simp
theorem kPre_false (ps : List Kp) (k n : Nat) (h : kPre ps k = false) (hk : k ≤ n) : kPre ps n = false := by
  induction hk with
  | refl => exact h
  | step h1 ih => rw [kPre_succ, ih]; rfl
set_option maxRecDepth 100000 in
set_option maxHeartbeats 4000000 in
theorem right_any (A : Option Addr) (ps : List Kp) (cap : Nat) (w : World) (h : Ks w A ps) (hc : ps.length ≤ cap) :
    Calls Tryz.prog 39 #[.slice A ps.length cap] w fun e w' => e = .returned (.bool (rightB ps)) ∧ Below w.heap.size w w' := by
  have hln := h.len
  have R := Lib.hid h
  by_cases h96 : 96 < ps.length
  · have HF := Lib.hid (show rightB ps = false by simp [rightB]; omega)
    have h96' : (96 : Int) < ps.length := by omega
    clear h
    generalize ps.length = L at *
    go_enter Tryz.func39, Tryz.ntmps39
    go_wp2_with fail
    go_ret
    exact ⟨by rw [HF.out]; rfl, Below.refl _ _⟩
  · have HF := Lib.hid (show rightB ps = kPre ps ps.length by simp [rightB]; omega)
    have h96' : ¬ (96 : Int) < ps.length := by omega
    clear h
    obtain ⟨L, hL⟩ : ∃ L, ps.length = L := ⟨_, rfl⟩
    have HL := Lib.hid hL
    rw [hL] at hc hln h96 h96' HF ⊢
    clear hL
    go_enter Tryz.func39, Tryz.ntmps39
    go_wp2_with fail
    go_loopw [10] (fun i wr => ∃ k : Nat, i = .int .i64 k ∧ k ≤ L ∧ Hid (kPre ps k = true ∧ Below w.heap.size w wr)) (fun i _ => L - (intOf i).toNat)
    case atStart => exact ⟨0, rfl, by omega, Lib.hid ⟨kPre_zero _, Below.refl _ _⟩⟩
    case round =>
      obtain ⟨k, rfl, hk, HH⟩ := hrel
      by_cases hlt : k < L
      · obtain ⟨x, hx⟩ : ∃ x, ps[k]? = some x := ⟨_, List.getElem?_eq_getElem (by rw [HL.out]; exact hlt)⟩
        obtain ⟨y, P, c, rfl, hin, hat⟩ := (R.out.below HH.out.2).kn hx
        have HS := Lib.hid (kPre_succ ps k)
        have HN := Lib.hid (kPre_false ps (k + 1) L)
        have HA1 : Below wr.heap.size wr (wr.alloc (.cells #[.int .u32 x.a, .slice P x.ss.length c] 66)) := (Below.refl _ wr).alloc (Nat.le_refl _) _
        have HM := Lib.hid fun W (hW : Below (wr.alloc (.cells #[.int .u32 x.a, .slice P x.ss.length c] 66)).heap.size (wr.alloc (.cells #[.int .u32 x.a, .slice P x.ss.length c] 66)) W) => rights_any P x.ss c W ((hin.lies.below HA1).below hW) hin.le
        have HB1 := Lib.hid (bthen HH.out.2 HA1 HH.out.2.size)
        have X0 : 0 ≤ x.a := hin.a0
        have X1 : x.a < 4294967296 := hin.a1
        have b0 : (wr.alloc (.cells #[.int .u32 x.a, .slice P x.ss.length c] 66)).cell? ⟨wr.heap.size, 0, none⟩ = some (.int .u32 x.a) := by simp
        have b1 : (wr.alloc (.cells #[.int .u32 x.a, .slice P x.ss.length c] 66)).cell? ⟨wr.heap.size, 1, none⟩ = some (.slice P x.ss.length c) := by simp
        rcases k with _ | j
        · have HO := Lib.hid (show kOk ps 0 = rsB x.ss by simp [kOk, hx])
          obtain ⟨xa, xs⟩ := x
          clear hx hin
          go_wp2_with (refine at_load53 _ rfl rfl _ _ rfl hat ?_)
          go_upto_region 6 with fail
          clear hat
          generalize wr.alloc (.cells #[.int .u32 xa, .slice P xs.length c] 66) = W1 at *
          generalize wr.heap.size = N1 at *
          replace b0 := cell_regrown b0
          replace b1 := cell_regrown b1
          skip
          cases hY : rsB xs
          · have HY := Lib.hid hY
            rw [hY] at HM
            clear hY
            have CM := Lib.hid fun (d : Nat) (os : Array Obj) => Calls.regrown_of (HM.out (Sort.grow (redrawn W1 d) os) (below_regrown W1 d os))
            refine wp_region_quiet_below (by kernel_rfl) (by kernel_rfl) ?_
            repeat (go_big_quiet_step ((go_at_call 86; (with_reducible exact CM.out _ _))))
            refine wpQuiet_nil ?_
            rintro w7 ⟨⟨dq, osq⟩, rfl⟩
            have HB7 := Lib.hid (bthen HB1.out (below_regrown W1 dq osq) HB1.out.size)
            clear b0 b1 CM HM HB1
            generalize Sort.grow (redrawn W1 dq) osq = W7 at *
            go_wp2_with fail
            go_ret
            exact ⟨ret_bool (by rw [HF.out, HN.out (by rw [HS.out, HO.out, HY.out]; simp) (by omega)]), HB7.out⟩
          · have HY := Lib.hid hY
            rw [hY] at HM
            clear hY
            have CM := Lib.hid fun (d : Nat) (os : Array Obj) => Calls.regrown_of (HM.out (Sort.grow (redrawn W1 d) os) (below_regrown W1 d os))
            refine wp_region_quiet_below (by kernel_rfl) (by kernel_rfl) ?_
            repeat (go_big_quiet_step ((go_at_call 86; (with_reducible exact CM.out _ _))))
            refine wpQuiet_nil ?_
            rintro w7 ⟨⟨dq, osq⟩, rfl⟩
            have HB7 := Lib.hid (bthen HB1.out (below_regrown W1 dq osq) HB1.out.size)
            clear b0 b1 CM HM HB1
            generalize Sort.grow (redrawn W1 dq) osq = W7 at *
            go_wp2_with fail
            go_roundw
            case rel => exact ⟨1, by go_num, by omega, Lib.hid ⟨by rw [HS.out, HH.out.1, HO.out, HY.out]; rfl, HB7.out⟩⟩
            case measure => simp [intOf]; omega
        · obtain ⟨z, hz⟩ : ∃ z, ps[j]? = some z := ⟨_, List.getElem?_eq_getElem (by rw [HL.out]; omega)⟩
          obtain ⟨y', P', c', hy', hin', hat'⟩ := (R.out.below HH.out.2).kn hz
          obtain rfl : y = y' := by injection hy'
          have c0 : (wr.alloc (.cells #[.int .u32 x.a, .slice P x.ss.length c] 66)).cell? (y.add (j * 2)) = some (.int .u32 z.a) := by
            have h0 := hat' 0 _ rfl
            rw [Addr.add_add, Nat.add_zero] at h0
            rw [HA1.cell (World.block_lt_of_cell? _ _ h0)]
            exact h0
          have hO : kOk ps (j + 1) = (decide (z.a < x.a) && rsB x.ss) := by simp [kOk, hx, hz]
          have hj : IntKind.i64.wrap (j : Int) = (j : Int) := i64_nat (by omega)
          have hjL : (j : Int) < L := by omega
          clear hat' hy' hin'
          by_cases hlt2 : z.a < x.a
          · have HO := Lib.hid (show kOk ps (j + 1) = rsB x.ss by rw [hO, decide_eq_true hlt2]; rfl)
            have hle2 : ¬ x.a ≤ z.a := by omega
            obtain ⟨xa, xs⟩ := x
            dsimp only at hle2
            have hle3 : decide (xa ≤ z.a) = false := decide_eq_false hle2
            clear hx hz hO hin
            go_wp2_with (refine at_load53 _ rfl rfl _ _ rfl hat ?_)
            go_upto_region 6 with fail
            clear hat
            generalize wr.alloc (.cells #[.int .u32 xa, .slice P xs.length c] 66) = W1 at *
            generalize wr.heap.size = N1 at *
            replace b0 := cell_regrown b0
            replace b1 := cell_regrown b1
            replace c0 := cell_regrown c0
            cases hY : rsB xs
            · have HY := Lib.hid hY
              rw [hY] at HM
              clear hY
              have CM := Lib.hid fun (d : Nat) (os : Array Obj) => Calls.regrown_of (HM.out (Sort.grow (redrawn W1 d) os) (below_regrown W1 d os))
              refine wp_region_quiet_below (by kernel_rfl) (by kernel_rfl) ?_
              repeat (go_big_quiet_step ((go_at_call 86; (with_reducible exact CM.out _ _))))
              refine wpQuiet_nil ?_
              rintro w7 ⟨⟨dq, osq⟩, rfl⟩
              have HB7 := Lib.hid (bthen HB1.out (below_regrown W1 dq osq) HB1.out.size)
              clear b0 b1 c0 CM HM HB1
              generalize Sort.grow (redrawn W1 dq) osq = W7 at *
              go_wp2_with fail
              go_ret
              exact ⟨ret_bool (by rw [HF.out, HN.out (by rw [HS.out, HO.out, HY.out]; simp) (by omega)]), HB7.out⟩
            · have HY := Lib.hid hY
              rw [hY] at HM
              clear hY
              have CM := Lib.hid fun (d : Nat) (os : Array Obj) => Calls.regrown_of (HM.out (Sort.grow (redrawn W1 d) os) (below_regrown W1 d os))
              refine wp_region_quiet_below (by kernel_rfl) (by kernel_rfl) ?_
              repeat (go_big_quiet_step ((go_at_call 86; (with_reducible exact CM.out _ _))))
              refine wpQuiet_nil ?_
              rintro w7 ⟨⟨dq, osq⟩, rfl⟩
              have HB7 := Lib.hid (bthen HB1.out (below_regrown W1 dq osq) HB1.out.size)
              clear b0 b1 c0 CM HM HB1
              generalize Sort.grow (redrawn W1 dq) osq = W7 at *
              go_wp2_with fail
              go_roundw
              case rel => exact ⟨j + 2, by go_num, by omega, Lib.hid ⟨by rw [HS.out, HH.out.1, HO.out, HY.out]; rfl, HB7.out⟩⟩
              case measure => simp [intOf]; omega
          · have HO := Lib.hid (show kOk ps (j + 1) = false by rw [hO, decide_eq_false hlt2]; rfl)
            have hle2 : x.a ≤ z.a := by omega
            obtain ⟨xa, xs⟩ := x
            clear hx hz hO hin
            go_wp2_with (refine at_load53 _ rfl rfl _ _ rfl hat ?_)
            go_upto_region 6 with fail
            clear hat
            generalize wr.alloc (.cells #[.int .u32 xa, .slice P xs.length c] 66) = W1 at *
            generalize wr.heap.size = N1 at *
            replace b0 := cell_regrown b0
            replace b1 := cell_regrown b1
            replace c0 := cell_regrown c0
            refine wp_region_quiet_below (by kernel_rfl) (by kernel_rfl) ?_
            repeat (go_big_quiet_step (fail))
            refine wpQuiet_nil ?_
            rintro w7 ⟨⟨dq, osq⟩, rfl⟩
            have HB7 := Lib.hid (bthen HB1.out (below_regrown W1 dq osq) HB1.out.size)
            clear b0 b1 c0 HM HB1
            generalize Sort.grow (redrawn W1 dq) osq = W7 at *
            go_wp2_with fail
            go_ret
            exact ⟨ret_bool (by rw [HF.out, HN.out (by rw [HS.out, HO.out]; simp) (by omega)]), HB7.out⟩
      · obtain rfl : k = L := by omega
        go_wp2_with fail
        go_ret
        exact ⟨ret_bool (by rw [HF.out, HH.out.1]), HH.out.2⟩
end Go.Proofs.YtilneflfeegnfaaGreat.Sn
namespace Go.Proofs.YtilneflfeegnfaaGreat.Sn
open Go.RowKit
def up : Int → List Sg → Prop
  | _, [] => True
  | t, x :: r => isrc x.f = true ∧ t ≤ x.t ∧ up x.t r
def lst : Int → List Sg → Int
  | t, [] => t
  | _, x :: r => lst x.t r
def ptg (t : Int) (ss : List Sg) : Nat → Int
  | 0 => t
  | i + 1 => (ss[i]?.getD zs).t
theorem up_iff : ∀ (ss : List Sg) (t : Int), (∀ (i : Nat) (x : Sg), ss[i]? = some x → isrc x.f = true ∧ ptg t ss i ≤ x.t) ↔ up t ss
  | [], t => by simp [up]
  | y :: r, t => by
    rw [up, ← up_iff r y.t]
    constructor
    · intro h
      have h0 := h 0 y rfl
      refine ⟨h0.1, h0.2, fun i x hx => ?_⟩
      have h1 := h (i + 1) x (by simpa using hx)
      refine ⟨h1.1, ?_⟩
      cases i with
      | zero => simpa [ptg] using h1.2
      | succ i => simpa [ptg] using h1.2
    · rintro ⟨h1, h2, h3⟩ i x hx
      cases i with
      | zero =>
        simp at hx
        subst hx
        exact ⟨h1, h2⟩
      | succ i =>
        have h4 := h3 i x (by simpa using hx)
        refine ⟨h4.1, ?_⟩
        cases i with
        | zero => simpa [ptg] using h4.2
        | succ i => simpa [ptg] using h4.2
theorem pt_ptg (ss : List Sg) (i : Nat) : pt ss i = ptg 0 ss i := by cases i <;> rfl
theorem rsP_up (ss : List Sg) : rsP ss ss.length = true ↔ up 0 ss := by
  rw [← up_iff]
  unfold rsP
  rw [List.all_eq_true]
  constructor
  · intro h i x hx
    have h1 := h i (List.mem_range.2 (List.getElem?_eq_some_iff.1 hx).1)
    simp only [sOk, hx, Bool.and_eq_true, decide_eq_true_eq, pt_ptg] at h1
    exact h1
  · intro h i hi
    obtain ⟨x, hx⟩ : ∃ x, ss[i]? = some x := ⟨_, List.getElem?_eq_getElem (List.mem_range.1 hi)⟩
    simp only [sOk, hx, Bool.and_eq_true, decide_eq_true_eq, pt_ptg]
    exact h i x hx
theorem rsB_iff (ss : List Sg) : rsB ss = true ↔ (1 ≤ ss.length ∧ ss.length ≤ 8) ∧ up 0 ss := by
  unfold rsB
  rw [Bool.and_eq_true, decide_eq_true_eq, rsP_up]
theorem up_mono {t u : Int} (h : u ≤ t) : ∀ {ss : List Sg}, up t ss → up u ss
  | [], _ => trivial
  | x :: r, ⟨h1, h2, h3⟩ => ⟨h1, by omega, h3⟩
theorem up_drop : ∀ (n : Nat) (ss : List Sg) (t : Int), up t ss → up t (ss.drop n)
  | 0, ss, t, h => h
  | n + 1, [], t, h => by simp [up]
  | n + 1, x :: r, t, ⟨_, h2, h3⟩ => by
    rw [List.drop_succ_cons]
    exact up_drop n r t (up_mono h2 h3)
theorem up_snoc : ∀ (ss : List Sg) (t : Int) (s : Sg), up t ss → isrc s.f = true → lst t ss ≤ s.t → up t (ss ++ [s])
  | [], t, s, _, hf, hl => ⟨hf, hl, trivial⟩
  | x :: r, t, s, ⟨h1, h2, h3⟩, hf, hl => ⟨h1, h2, up_snoc r x.t s h3 hf hl⟩
theorem lst_tk : ∀ (ss : List Sg) (t : Int), 0 < ss.length → lst t ss = tk ss
  | [x], t, _ => rfl
  | x :: y :: r, t, _ => by
    rw [lst, lst_tk (y :: r) x.t (by simp)]
    simp [tk]
theorem tk_drop {ss : List Sg} {n : Nat} (h : n < ss.length) : tk (ss.drop n) = tk ss := by
  unfold tk
  rw [List.length_drop, List.getElem?_drop, show n + (ss.length - n - 1) = ss.length - 1 by omega]
theorem kp_length (ss : List Sg) (s : Sg) : (kp ss s).length = min ss.length 7 + 1 := by
  unfold kp
  rw [List.length_append, List.length_drop, List.length_singleton]
  omega
theorem kp_right {ss : List Sg} {s : Sg} (h : ss = [] ∨ rsB ss = true) (hf : isrc s.f = true) (h0 : 0 ≤ s.t) (ht : any ss = true → tk ss ≤ s.t) : rsB (kp ss s) = true := by
  rw [rsB_iff, kp_length]
  refine ⟨by omega, ?_⟩
  unfold kp
  refine up_snoc _ _ _ ?_ hf ?_
  · rcases h with rfl | h
    · simp [up]
    · exact up_drop _ _ _ ((rsB_iff _).1 h).2
  · rcases Nat.eq_zero_or_pos ss.length with e | e
    · rw [List.eq_nil_of_length_eq_zero e]
      exact h0
    · rw [lst_tk _ _ (by rw [List.length_drop]; omega), tk_drop (by omega)]
      exact ht (by simp [any, e])
def Srt (ys : List Kp) : Prop := ys.Pairwise (fun x y => x.a < y.a)
theorem Srt.lt {ys : List Kp} (h : Srt ys) {i j : Nat} {x y : Kp} (hij : i < j) (hx : ys[i]? = some x) (hy : ys[j]? = some y) : x.a < y.a := by
  obtain ⟨h1, rfl⟩ := List.getElem?_eq_some_iff.1 hx
  obtain ⟨h2, rfl⟩ := List.getElem?_eq_some_iff.1 hy
  exact List.pairwise_iff_getElem.1 h i j h1 h2 hij
theorem Srt.at {ys : List Kp} (h : Srt ys) {x : Kp} (hx : x ∈ ys) : ys[lo ys x.a]? = some x := by
  obtain ⟨q, hq, rfl⟩ := List.mem_iff_getElem.1 hx
  have hx' := List.getElem?_eq_getElem hq
  have hge : ¬ q < lo ys ys[q].a := fun hlt => by
    have := lo_lt _ ys q _ hlt hx'
    omega
  have hle := lo_le ys[q].a ys
  rcases Nat.lt_or_ge (lo ys ys[q].a) q with hlt | hge2
  · exfalso
    have hlL : lo ys ys[q].a < ys.length := by omega
    obtain ⟨z, hz⟩ : ∃ z, ys[lo ys ys[q].a]? = some z := ⟨ys[lo ys ys[q].a], List.getElem?_eq_getElem hlL⟩
    have h1 := h.lt hlt hz hx'
    exact lo_ge _ ys z hz h1
  · have : lo ys ys[q].a = q := by omega
    rw [this]
    exact hx'
theorem Srt.mem {ys : List Kp} (h : Srt ys) {x : Kp} (hx : x ∈ ys) : isAt ys x.a = true ∧ sg ys x.a = x.ss := by
  have e := h.at hx
  have hi : isAt ys x.a = true := by unfold isAt; rw [e]; simp
  exact ⟨hi, sg_at hi e⟩
theorem isAt_mem {ys : List Kp} {a : Int} (h : isAt ys a = true) : (⟨a, sg ys a⟩ : Kp) ∈ ys := by
  obtain ⟨x, hx, hxa, _⟩ := isAt_some h
  have : (⟨a, sg ys a⟩ : Kp) = x := by rw [sg_at h hx, ← hxa]
  rw [this]
  exact List.mem_of_getElem? hx
theorem Srt.not {ys : List Kp} (h : Srt ys) {a : Int} (hi : isAt ys a = false) : ∀ x ∈ ys, x.a ≠ a := by
  rintro x hx rfl
  rw [(h.mem hx).1] at hi
  cases hi
theorem isAt_not {ys : List Kp} {a : Int} (h : ∀ x ∈ ys, x.a ≠ a) : isAt ys a = false := by
  cases e : isAt ys a with
  | false => rfl
  | true => exact absurd rfl (h _ (isAt_mem e))
theorem take_lo {ys : List Kp} (a : Int) : ∀ x ∈ ys.take (lo ys a), x.a < a := by
  intro x hx
  obtain ⟨q, hq, rfl⟩ := List.mem_iff_getElem.1 hx
  rw [List.length_take] at hq
  rw [List.getElem_take]
  exact lo_lt a ys q _ (by omega) (List.getElem?_eq_getElem (by omega))
theorem Srt.drop_lo {ys : List Kp} (h : Srt ys) (a : Int) : ∀ x ∈ ys.drop (lo ys a), a ≤ x.a := by
  intro x hx
  obtain ⟨q, hq, rfl⟩ := List.mem_iff_getElem.1 hx
  rw [List.length_drop] at hq
  rw [List.getElem_drop]
  obtain ⟨z, hz⟩ : ∃ z, ys[lo ys a]? = some z := ⟨_, List.getElem?_eq_getElem (by omega)⟩
  have hz2 := lo_ge a ys z hz
  rcases Nat.eq_zero_or_pos q with rfl | hp
  · have := (List.getElem?_eq_some_iff.1 hz).2
    simp only [Nat.add_zero]
    rw [this]; omega
  · have := h.lt (show lo ys a < lo ys a + q by omega) hz (List.getElem?_eq_getElem (by omega))
    omega
def dn (ys : List Kp) (a : Int) : Nat := lo ys a + if isAt ys a = true then 1 else 0
theorem Srt.rest {ys : List Kp} (h : Srt ys) (a : Int) : ∀ x ∈ ys.drop (dn ys a), a < x.a := by
  unfold dn
  cases hi : isAt ys a with
  | false =>
    intro x hx
    simp only [Bool.false_eq_true, if_false, Nat.add_zero] at hx
    have h1 := h.drop_lo a x hx
    have h2 := h.not hi x (List.mem_of_mem_drop hx)
    omega
  | true =>
    intro x hx
    simp only [if_true] at hx
    obtain ⟨z, hz, hza, hlt⟩ := isAt_some hi
    obtain ⟨q, hq, rfl⟩ := List.mem_iff_getElem.1 hx
    rw [List.length_drop] at hq
    rw [List.getElem_drop]
    have := h.lt (show lo ys a < lo ys a + 1 + q by omega) hz (List.getElem?_eq_getElem (by omega))
    omega
theorem ins_def (ys : List Kp) (a : Int) (s : Sg) : ins ys a s = ys.take (lo ys a) ++ [⟨a, kp (sg ys a) s⟩] ++ ys.drop (dn ys a) := rfl
theorem Srt.mem_ins {ys : List Kp} (h : Srt ys) {a : Int} {s : Sg} {x : Kp} : x ∈ ins ys a s ↔ x = ⟨a, kp (sg ys a) s⟩ ∨ x ∈ ys ∧ x.a ≠ a := by
  rw [ins_def, List.mem_append, List.mem_append, List.mem_singleton]
  constructor
  · rintro ((h1 | h1) | h1)
    · have := take_lo a x h1
      exact .inr ⟨List.mem_of_mem_take h1, by omega⟩
    · exact .inl h1
    · have := h.rest a x h1
      exact .inr ⟨List.mem_of_mem_drop h1, by omega⟩
  · rintro (h1 | ⟨h1, h2⟩)
    · exact .inl (.inr h1)
    · have hx' : x ∈ ys.take (lo ys a) ++ ys.drop (lo ys a) := by rw [List.take_append_drop]; exact h1
      rcases List.mem_append.1 hx' with h3 | h3
      · exact .inl (.inl h3)
      · right
        unfold dn
        cases hi : isAt ys a with
        | false => simpa using h3
        | true =>
          obtain ⟨z, hz, hza, hlt⟩ := isAt_some hi
          rw [List.drop_eq_getElem_cons hlt] at h3
          rcases List.mem_cons.1 h3 with rfl | h3
          · exfalso
            have := (List.getElem?_eq_some_iff.1 hz).2
            rw [this] at h2
            exact h2 hza
          · simpa using h3
theorem Srt.ins {ys : List Kp} (h : Srt ys) (a : Int) (s : Sg) : Srt (ins ys a s) := by
  rw [ins_def]
  unfold Srt
  rw [List.append_assoc, List.pairwise_append]
  refine ⟨h.sublist (List.take_sublist _ _), ?_, ?_⟩
  · rw [List.singleton_append, List.pairwise_cons]
    exact ⟨fun x hx => h.rest a x hx, h.sublist (List.drop_sublist _ _)⟩
  · intro x hx y hy
    have h1 := take_lo a x hx
    rcases List.mem_append.1 hy with hy | hy
    · have : y = ⟨a, kp (sg ys a) s⟩ := by simpa using hy
      rw [this]; exact h1
    · have := h.rest a y hy
      omega
theorem ins_length (ys : List Kp) (a : Int) (s : Sg) : (ins ys a s).length = ys.length + if isAt ys a = true then 0 else 1 := by
  have := lo_le a ys
  rw [ins_def, List.length_append, List.length_append, List.length_take, List.length_drop, List.length_singleton]
  unfold dn
  cases hi : isAt ys a with
  | false => simp; omega
  | true =>
    obtain ⟨_, _, _, hlt⟩ := isAt_some hi
    simp; omega
theorem Srt.ins_at {ys : List Kp} (h : Srt ys) (a : Int) (s : Sg) (b : Int) : isAt (YtilneflfeegnfaaGreat.Sn.ins ys a s) b = (decide (b = a) || isAt ys b) ∧ sg (YtilneflfeegnfaaGreat.Sn.ins ys a s) b = if b = a then kp (sg ys a) s else sg ys b := by
  have hs := h.ins a s
  by_cases e : b = a
  · subst e
    obtain ⟨h1, h2⟩ := hs.mem (h.mem_ins.2 (.inl rfl))
    dsimp only at h1 h2
    rw [h1, h2]
    simp
  · rw [if_neg e, decide_eq_false e, Bool.false_or]
    cases hi : isAt ys b with
    | true =>
      obtain ⟨h1, h2⟩ := hs.mem (h.mem_ins.2 (.inr ⟨isAt_mem hi, e⟩))
      exact ⟨h1, h2⟩
    | false =>
      have : isAt (YtilneflfeegnfaaGreat.Sn.ins ys a s) b = false := isAt_not fun x hx => by
        rcases h.mem_ins.1 hx with rfl | ⟨hx, _⟩
        · exact fun e' => e e'.symm
        · exact h.not hi x hx
      exact ⟨this, by rw [sg_no this, sg_no hi]⟩
structure V (ps : List Kp) : Prop where
  srt : Srt ps
  ok : ∀ x ∈ ps, rsB x.ss = true
  le : ps.length ≤ 96
theorem V.nil : V [] := ⟨List.Pairwise.nil, fun x hx => by simp at hx, by simp⟩
theorem V.bd {ps : List Kp} (h : V ps) : Bd ps := ⟨by have := h.le; omega, fun x hx => by have := ((rsB_iff _).1 (h.ok x hx)).1.2; omega⟩
theorem V.any {ps : List Kp} (h : V ps) (a : Int) : any (sg ps a) = isAt ps a := by
  cases hi : isAt ps a with
  | false => rw [sg_no hi]; rfl
  | true =>
    have := ((rsB_iff _).1 (h.ok _ (isAt_mem hi))).1.1
    dsimp only at this
    unfold YtilneflfeegnfaaGreat.Sn.any
    exact decide_eq_true (by omega)
theorem V.sgs {ps : List Kp} (h : V ps) (a : Int) : sg ps a = [] ∨ rsB (sg ps a) = true := by
  cases hi : isAt ps a with
  | false => exact .inl (sg_no hi)
  | true => exact .inr (h.ok _ (isAt_mem hi))
theorem put_zero {ps : List Kp} {a : Int} {s : Sg} (h : putC ps a s = 0) : putR ps a s = ins ps a s ∧ isrc s.f = true ∧ 0 ≤ s.t ∧ (any (sg ps a) = true → tk (sg ps a) ≤ s.t) ∧ (any (sg ps a) = false → ps.length < 96) := by
  refine ⟨by unfold putR; rw [h]; rfl, ?_⟩
  unfold putC at h
  split at h
  · cases h
  · rename_i h1
    split at h
    · cases h
    · rename_i h2
      split at h
      · cases h
      · rename_i h3
        refine ⟨by simpa using h1, ?_, fun e => ?_, fun e => ?_⟩
        · exact Int.not_lt.1 fun e => h2 (.inl e)
        · exact Int.not_lt.1 fun e' => h2 (.inr ⟨e, e'⟩)
        · exact Nat.not_le.1 fun e' => h3 ⟨e, e'⟩
theorem put_yes {ps : List Kp} {a : Int} {s : Sg} (h1 : isrc s.f = true) (h2 : 0 ≤ s.t) (h3 : any (sg ps a) = true → tk (sg ps a) ≤ s.t) (h4 : any (sg ps a) = false → ps.length < 96) : putC ps a s = 0 := by
  unfold putC
  rw [if_neg (by rw [h1]; simp), if_neg, if_neg]
  · rintro ⟨e, e'⟩
    have := h4 e
    omega
  · rintro (e | ⟨e, e'⟩)
    · omega
    · have := h3 e
      omega
theorem V.put {ps : List Kp} (h : V ps) {a : Int} {s : Sg} (hp : putC ps a s = 0) : V (ins ps a s) := by
  obtain ⟨_, h1, h2, h3, h4⟩ := put_zero hp
  refine ⟨h.srt.ins a s, fun x hx => ?_, ?_⟩
  · rcases h.srt.mem_ins.1 hx with rfl | ⟨hx, _⟩
    · exact kp_right (h.sgs a) h1 h2 h3
    · exact h.ok x hx
  · rw [ins_length]
    rw [h.any] at h4
    cases hi : isAt ps a with
    | false => have := h4 hi; simp; omega
    | true => have := h.le; simp; omega
theorem V.right {ps : List Kp} (h : V ps) : rightB ps = true := by
  unfold rightB
  rw [decide_eq_true h.le, Bool.true_and]
  unfold kPre
  rw [List.all_eq_true]
  intro i hi
  obtain ⟨x, hx⟩ : ∃ x, ps[i]? = some x := ⟨_, List.getElem?_eq_getElem (List.mem_range.1 hi)⟩
  simp only [kOk, hx, h.ok x (List.mem_of_getElem? hx), Bool.and_true]
  cases i with
  | zero => rfl
  | succ i =>
    obtain ⟨y, hy⟩ : ∃ y, ps[i]? = some y := ⟨_, List.getElem?_eq_getElem (by have := List.mem_range.1 hi; omega)⟩
    simp only [Nat.add_sub_cancel, hy]
    rw [decide_eq_true (h.srt.lt (by omega) hy hx), Bool.or_true]
theorem V.filter {ps : List Kp} (h : V ps) (p : Kp → Bool) : V (ps.filter p) :=
  ⟨h.srt.sublist List.filter_sublist, fun x hx => h.ok x (List.mem_filter.1 hx).1, Nat.le_trans (List.length_filter_le _ _) h.le⟩
theorem srt_count : ∀ (ps : List Kp) (l : Int) (n : Nat), Srt ps → (∀ x ∈ ps, l ≤ x.a ∧ x.a < l + n) → ps.length ≤ n
  | [], _, _, _, _ => by simp
  | x :: r, l, n, h, hr => by
    have h1 := hr x (List.mem_cons_self ..)
    rcases List.pairwise_cons.1 h with ⟨h2, h3⟩
    cases n with
    | zero => omega
    | succ n =>
      have := srt_count r (l + 1) n h3 fun y hy => by
        have h4 := h2 y hy
        have h5 := hr y (List.mem_cons_of_mem _ hy)
        omega
      rw [List.length_cons]; omega
end Go.Proofs.YtilneflfeegnfaaGreat.Sn
namespace Go.Proofs.YtilneflfeegnfaaGreat.Hl
open Go.RowKit
structure Hr where
  a : Int
  T : ByteArray
  m0 : Int
  m1 : Int
  m2 : Int
  m3 : Int
  m4 : Int
  m5 : Int
def Hr.ok (x : Hr) : Prop := 0 ≤ x.a ∧ x.a < 4294967296 ∧ x.T.size ≤ 9223372036854775807
def zh : Hr := ⟨0, ⟨#[]⟩, 0, 0, 0, 0, 0, 0⟩
def hl (x : Hr) : List Value := [.int .u32 x.a, .string x.T, .int .u8 x.m0, .int .u8 x.m1, .int .u8 x.m2, .int .u8 x.m3, .int .u8 x.m4, .int .u8 x.m5]
def hv (x : Hr) : Value := .agg #[.int .u32 x.a, .string x.T, .int .u8 x.m0, .int .u8 x.m1, .int .u8 x.m2, .int .u8 x.m3, .int .u8 x.m4, .int .u8 x.m5]
def Hx (x : Hr) : Obj := .cells #[.int .u32 x.a, .string x.T, .int .u8 x.m0, .int .u8 x.m1, .int .u8 x.m2, .int .u8 x.m3, .int .u8 x.m4, .int .u8 x.m5] 44
theorem hl_length (x : Hr) : (hl x).length = 8 := rfl
theorem hl_one (x : Hr) : ∀ u ∈ hl x, u.oneCell' = true := by
  intro u hu
  simp [hl] at hu
  rcases hu with rfl | rfl | rfl | rfl | rfl | rfl | rfl | rfl <;> rfl
def hcs (xs : List Hr) : List Value := xs.flatMap hl
theorem hcs_append (xs ys : List Hr) : hcs (xs ++ ys) = hcs xs ++ hcs ys := by simp [hcs]
theorem hcs_one (xs : List Hr) : ∀ u ∈ hcs xs, u.oneCell' = true := by
  intro u hu
  obtain ⟨r, _, h⟩ := List.mem_flatMap.1 hu
  exact hl_one r u h
theorem hcs_length (xs : List Hr) : (hcs xs).length = xs.length * 8 := by
  induction xs with
  | nil => rfl
  | cons x r ih => rw [hcs, List.flatMap_cons, List.length_append, ← hcs, ih, hl_length, List.length_cons]; omega
theorem hcs_at (xs : List Hr) : ∀ (q : Nat) (x : Hr) (j : Nat), xs[q]? = some x → j < 8 → (hcs xs)[q * 8 + j]? = (hl x)[j]? := by
  induction xs with
  | nil => intro q x j h; simp at h
  | cons y r ih =>
    intro q x j h hj
    rw [hcs, List.flatMap_cons, ← hcs]
    cases q with
    | zero =>
      simp at h
      subst h
      rw [List.getElem?_append_left (by rw [hl_length]; omega)]
      simp
    | succ q =>
      rw [List.getElem?_append_right (by rw [hl_length]; omega), hl_length, show (q + 1) * 8 + j - 8 = q * 8 + j by omega]
      exact ih q x j (by simpa using h) hj
def Hs (w : World) (A : Option Addr) (xs : List Hr) : Prop :=
  xs.length ≤ 140737488355328 ∧ ∀ (q : Nat) (x : Hr), xs[q]? = some x → x.ok ∧ ∃ y, A = some y ∧ ∀ j v, (hl x)[j]? = some v → w.cell? (y.add (q * 8 + j)) = some v
theorem Hs.nil (w : World) (A : Option Addr) : Hs w A [] := ⟨by simp, fun q x h => by simp at h⟩
theorem Hs.keep {w w' : World} {A : Option Addr} {xs : List Hr} {B : Nat} (h : Hs w A xs) (hb : Below B w w') (hB : ∀ y, A = some y → y.block < B) : Hs w' A xs := by
  refine ⟨h.1, fun q x hq => ?_⟩
  obtain ⟨hk, y, hy, hc⟩ := h.2 q x hq
  refine ⟨hk, y, hy, fun j v hv => (hb.cell (p := y.add (q * 8 + j)) ?_).trans (hc j v hv)⟩
  rw [show (y.add (q * 8 + j)).block = y.block by unfold Addr.add; split <;> rfl]
  exact hB y hy
theorem Hs.below {w w' : World} {A : Option Addr} {xs : List Hr} (h : Hs w A xs) (hb : Below w.heap.size w w') : Hs w' A xs := by
  refine ⟨h.1, fun q x hq => ?_⟩
  obtain ⟨hk, y, hy, hc⟩ := h.2 q x hq
  exact ⟨hk, y, hy, fun j v hv => (hb.cell (World.block_lt_of_cell? _ _ (hc j v hv))).trans (hc j v hv)⟩
theorem Hs.grown {w w' : World} {A : Option Addr} {xs : List Hr} {row : Option Nat} (h : Hs w A xs) (hg : w.grownBy w' row) (hne : ∀ x, A = some x → some x.block ≠ row) : Hs w' A xs := by
  refine ⟨h.1, fun q x hq => ?_⟩
  obtain ⟨hk, y, hy, hc⟩ := h.2 q x hq
  refine ⟨hk, y, hy, fun j v hv => hg.cell (hc j v hv) ?_⟩
  rw [show (y.add (q * 8 + j)).block = y.block by unfold Addr.add; split <;> rfl]
  exact hne y hy
theorem Hs.ok {w : World} {A : Option Addr} {xs : List Hr} (h : Hs w A xs) {q : Nat} {x : Hr} (hq : xs[q]? = some x) : x.ok := (h.2 q x hq).1
theorem hs_some {w : World} {A : Option Addr} {xs : List Hr} (h : Hs w A xs) (hn : 0 < xs.length) : ∃ y, A = some y := by
  obtain ⟨_, y, hy, _⟩ := h.2 0 xs[0] (List.getElem?_eq_getElem hn)
  exact ⟨y, hy⟩
theorem Hs.at {w : World} {y : Addr} {xs : List Hr} (h : Hs w (some y) xs) {q : Nat} {x : Hr} (hq : xs[q]? = some x) : ∀ j v, (hl x)[j]? = some v → w.cell? ((y.add (q * 8)).add j) = some v := by
  obtain ⟨_, y', hy, hc⟩ := h.2 q x hq
  injection hy with hy
  subst hy
  intro j v hv
  rw [Addr.add_add]
  exact hc j v hv
theorem Hs.cells {w : World} {y : Addr} {xs : List Hr} (h : Hs w (some y) xs) : ∀ j u, (hcs xs)[j]? = some u → w.cell? (y.add j) = some u := by
  intro j u hu
  have hj : j < xs.length * 8 := by have := (List.getElem?_eq_some_iff.1 hu).1; rwa [hcs_length] at this
  have e : j = j / 8 * 8 + j % 8 := by omega
  have hq : j / 8 < xs.length := by omega
  have hx := List.getElem?_eq_getElem hq
  obtain ⟨_, y', hy, hc⟩ := h.2 (j / 8) _ hx
  injection hy with hy
  subst hy
  rw [e, hcs_at xs (j / 8) _ (j % 8) hx (by omega)] at hu
  rw [e]
  exact hc _ _ hu
theorem Hs.take {w : World} {A : Option Addr} {xs : List Hr} (h : Hs w A xs) (n : Nat) : Hs w A (xs.take n) := by
  refine ⟨by have := h.1; rw [List.length_take]; omega, fun q x hq => h.2 q x ?_⟩
  rw [List.getElem?_take] at hq
  split at hq
  · exact hq
  · cases hq
theorem Hs.drop {w : World} {y : Addr} {xs : List Hr} (h : Hs w (some y) xs) (n : Nat) : Hs w (some (y.add (n * 8))) (xs.drop n) := by
  refine ⟨by have := h.1; rw [List.length_drop]; omega, fun q x hq => ?_⟩
  rw [List.getElem?_drop] at hq
  obtain ⟨hk, y', hy, hc⟩ := h.2 (n + q) x hq
  injection hy with hy
  subst hy
  refine ⟨hk, _, rfl, fun j v hv => ?_⟩
  rw [Addr.add_add, show n * 8 + (q * 8 + j) = (n + q) * 8 + j by omega]
  exact hc j v hv
theorem own_hs {w : World} {base : Nat} {v : Value} {n : Nat} {xs : List Hr} (h : w.ownsRow base 44 8 v n (hcs xs)) (hok : ∀ x ∈ xs, x.ok) (hn : xs.length ≤ 140737488355328) : ∃ A cap, v = .slice A xs.length cap ∧ xs.length ≤ cap ∧ cap ≤ maxLen ∧ n = xs.length ∧ Hs w A xs ∧ (∀ y, A = some y → base ≤ y.block ∧ y.block < w.heap.size) := by
  have hl := h.1
  rw [hcs_length] at hl
  have hnx : n = xs.length := by omega
  subst hnx
  rcases h.2 with ⟨rfl, h0⟩ | ⟨g, cap, cur, rfl, hb, hg, hle, hm, hs, ht⟩
  · have : xs = [] := List.eq_nil_of_length_eq_zero h0
    subst this
    exact ⟨none, 0, rfl, by simp, by unfold maxLen; omega, rfl, Hs.nil _ _, fun y e => by cases e⟩
  · refine ⟨some ⟨g, 0, none⟩, cap, rfl, hle, hm, rfl, ⟨hn, fun q x hq => ⟨hok x (List.mem_of_getElem? hq), _, rfl, fun j v hv => ?_⟩⟩, fun y e => by injection e with e; subst e; exact ⟨hb, (Array.getElem?_eq_some_iff.1 hg).1⟩⟩
    have hj : j < 8 := by have := (List.getElem?_eq_some_iff.1 hv).1; rwa [hl_length] at this
    refine h.cells (g := g) rfl _ _ ?_
    rw [hcs_at xs q x j hq hj]
    exact hv
theorem size33 : (Tryz.prog.info? 44).map (·.size) = some 8 := by kernel_rfl
theorem load33 {w : World} {y : Addr} {x : Hr} (h : ∀ j v, (hl x)[j]? = some v → w.cell? (y.add j) = some v) : (Instr.loadAt 44 (.pointer (some y))).run Tryz.prog w = .ok (hv x) w := by
  have hl' : (loadCells y 8).run Tryz.prog w = .ok (hl x).toArray w := run_loadCells_list (P := Tryz.prog) w y (hl x) h
  obtain ⟨i, hi, hs⟩ := Option.map_eq_some_iff.1 size33
  have hg : (isAgg 44).run Tryz.prog w = .ok true w := by
    unfold isAgg
    simp only [Sem.run_bind, run_underlying Tryz.underlying44, Result.andThen_ok, Sem.run_pure]
  have hz : (Go.sizeOf 44).run Tryz.prog w = .ok 8 w := by
    rw [← hs]
    simp [Go.sizeOf, typeInfo, hi]
  simp only [Instr.loadAt, Instr.sureAddr, loadVar, Sem.run_bind, Sem.run_pure, Result.andThen_ok, hg, hz, hl', if_true]
  rfl
theorem at_load33 {ops : Array Oper} {rest : List Oper} {op : Oper} {a : Act} {w : World} {Q : Exit → Act → World → Prop} (x : Operand) (hgd : op.guard = none) (ho : op.op = .load 44 x) (y : Addr) (z : Hr) (hx : a.eval x = .pointer (some y)) (hr : ∀ j v, (hl z)[j]? = some v → w.cell? (y.add j) = some v)
    (h : wpList Tryz.prog ops Q rest (a.put op.dst (.agg #[.int .u32 z.a, .string z.T, .int .u8 z.m0, .int .u8 z.m1, .int .u8 z.m2, .int .u8 z.m3, .int .u8 z.m4, .int .u8 z.m5])) w) : wpList Tryz.prog ops Q (op :: rest) a w :=
  wpList_plain hgd fun _ hK => by
    unfold Oper.wp execOp
    simp only [ho, hx, Sem.run_bind, Sem.run_pure, Result.andThen_ok, load33 hr]
    exact hK _ _ h
def eqh (x y : Hr) : Bool := x.a == y.a && (x.T.data.toList == y.T.data.toList && (x.m0 == y.m0 && (x.m1 == y.m1 && (x.m2 == y.m2 && (x.m3 == y.m3 && (x.m4 == y.m4 && x.m5 == y.m5))))))
theorem eqh_iff (x y : Hr) : eqh x y = true ↔ x = y := by
  obtain ⟨a, T, m0, m1, m2, m3, m4, m5⟩ := x
  obtain ⟨b, U, n0, n1, n2, n3, n4, n5⟩ := y
  have e : T.data.toList = U.data.toList ↔ T = U := by
    constructor
    · intro h
      obtain ⟨⟨l⟩⟩ := T
      obtain ⟨⟨k⟩⟩ := U
      simp at h
      rw [h]
    · rintro rfl; rfl
  simp only [eqh, Bool.and_eq_true, beq_iff_eq, e, Hr.mk.injEq]
theorem run_eq33 (x y : Hr) (W : World) : (Op.equalIn 10000 44 (hv x) (hv y)).run Tryz.prog W = .ok (eqh x y) W := by
  have h6 := run_eq6 x.m0 x.m1 x.m2 x.m3 x.m4 x.m5 y.m0 y.m1 y.m2 y.m3 y.m4 y.m5 9997 W
  unfold hv
  rw [show (10000 : Nat) = 9999 + 1 from rfl, run_equalIn_struct W 9999 44 _ _ (by kernel_rfl) (by kernel_rfl)]
  simp [go_sem, part, h6]
  unfold eqh
  by_cases h1 : x.a = y.a
  · by_cases h2 : x.T.toList = y.T.toList
    · rw [if_pos h1, if_pos h2]
      have h2' : x.T.data.toList = y.T.data.toList := by simpa [ByteArray.toList_eq] using h2
      by_cases h3 : x.m0 = y.m0 ∧ x.m1 = y.m1 ∧ x.m2 = y.m2 ∧ x.m3 = y.m3 ∧ x.m4 = y.m4 ∧ x.m5 = y.m5
      · obtain ⟨g0, g1, g2, g3, g4, g5⟩ := h3
        simp [eq6, h1, h2', g0, g1, g2, g3, g4, g5]
      · have h3' : eq6 x.m0 x.m1 x.m2 x.m3 x.m4 x.m5 y.m0 y.m1 y.m2 y.m3 y.m4 y.m5 = false := decide_eq_false h3
        rw [h3']
        simp only [Bool.false_eq_true, if_true, if_false, Result.andThen_ok]
        refine congrArg (fun z => Result.ok z W) ?_
        symm
        rw [Bool.eq_false_iff]
        intro hc
        simp at hc
        exact h3 ⟨hc.2.2.1, hc.2.2.2.1, hc.2.2.2.2.1, hc.2.2.2.2.2.1, hc.2.2.2.2.2.2.1, hc.2.2.2.2.2.2.2⟩
    · rw [if_pos h1, if_neg h2]
      have h2' : ¬ x.T.data.toList = y.T.data.toList := by simpa [ByteArray.toList_eq] using h2
      have : (x.T.data.toList == y.T.data.toList) = false := by simpa using h2'
      rw [this]
      simp
  · rw [if_neg h1]
    simp [h1]
theorem run_eql33 (x y : Hr) (W : World) : (binOp .eql 44 (hv x) (hv y)).run Tryz.prog W = .ok (.bool (eqh x y)) W := by
  have := run_eql_struct (P := Tryz.prog) W 44 (hl x).toArray (hl y).toArray
  rw [show Value.agg (hl x).toArray = hv x from rfl, show Value.agg (hl y).toArray = hv y from rfl, run_eq33] at this
  exact this
theorem guard33 (op : BinOp) (p q : Operand) (x y : Hr) (W : World) : (eqGuard op 44 p q (hv x) (hv y)).run Tryz.prog W = .ok () W := run_eqGuard_agg W op 44 p q _ _ (by kernel_rfl)
section
variable {ops : Array Oper} {rest : List Oper} {o : Oper} {a : Act} {C : World → Prop} {Q : Act → Prop}
theorem quiet_load33 (x : Operand) (y : Addr) (p : Hr) (hr : ∀ W, C W → ∀ j v, (hl p)[j]? = some v → W.cell? (y.add j) = some v) (hw : Region.wanted o (yielded ops a.tmps) = true) (ho : o.op = .load 44 x) (hx : a.eval x = .pointer (some y)) (h : wpQuiet Tryz.prog ops C Q rest (a.put o.dst (hv p))) : wpQuiet Tryz.prog ops C Q (o :: rest) a :=
  BigFrame.wpQuiet_want hw fun K hK => ⟨hv p, fun W hC => by
    unfold Oper.quietAt execOp
    simp only [ho, hx, Sem.run_bind, Sem.run_pure, Result.andThen_ok, load33 (hr W hC)]
    exact ⟨rfl, rfl⟩, hK _ h⟩
end
end Go.Proofs.YtilneflfeegnfaaGreat.Hl
namespace Go.Proofs.YtilneflfeegnfaaGreat.Hl
open Go.RowKit
def obB (c : Int) : Bool := decide (97 ≤ c ∧ c ≤ 122 ∨ 48 ≤ c ∧ c ≤ 57)
theorem ob_yes {c : Int} (h : 97 ≤ c ∧ c ≤ 122 ∨ 48 ≤ c ∧ c ≤ 57) : obB c = true := decide_eq_true h
theorem ob_no {c : Int} (h : ¬ (97 ≤ c ∧ c ≤ 122 ∨ 48 ≤ c ∧ c ≤ 57)) : obB c = false := decide_eq_false h
theorem ob_any (c : Int) (w : World) (h0 : 0 ≤ c) (h1 : c < 256) : Calls Tryz.prog 114 #[.int .u8 c] w fun e w' => e = .returned (.bool (obB c)) ∧ w' = w := by
  by_cases a : 97 ≤ c
  · by_cases b : c ≤ 122
    · have H := Lib.hid (ob_yes (c := c) (by omega))
      go_enter Tryz.func114, Tryz.ntmps114
      go_wp2_with fail
      go_ret
      exact ⟨by rw [H.out]; first | rfl | exact ret_bool (by simp; omega), rfl⟩
    · have H := Lib.hid (ob_no (c := c) (by omega))
      have b' : (c ≤ 57) = False := by simp; omega
      go_enter Tryz.func114, Tryz.ntmps114
      go_wp2_with fail
      go_ret
      exact ⟨by rw [H.out]; first | rfl | exact ret_bool (by simp; omega), rfl⟩
  · by_cases b : 48 ≤ c ∧ c ≤ 57
    · obtain ⟨b0, b1⟩ := b
      have H := Lib.hid (ob_yes (c := c) (by omega))
      go_enter Tryz.func114, Tryz.ntmps114
      go_wp2_with fail
      go_ret
      exact ⟨by rw [H.out]; first | rfl | exact ret_bool (by simp; omega), rfl⟩
    · have H := Lib.hid (ob_no (c := c) (by omega))
      by_cases b0 : 48 ≤ c
      · have b1 : 57 < c := by omega
        clear b
        go_enter Tryz.func114, Tryz.ntmps114
        go_wp2_with fail
        go_ret
        exact ⟨by rw [H.out]; first | rfl | exact ret_bool (by simp; omega), rfl⟩
      · clear b
        go_enter Tryz.func114, Tryz.ntmps114
        go_wp2_with fail
        go_ret
        exact ⟨by rw [H.out]; first | rfl | exact ret_bool (by simp; omega), rfl⟩
def obs (s : ByteArray) (k : Nat) : Bool := (s.data.toList.take k).all fun c => obB (c.toNat : Int)
theorem obs_zero (s : ByteArray) : obs s 0 = true := by simp [obs]
theorem obs_snoc (s : ByteArray) (k : Nat) (h : k < s.size) : obs s (k + 1) = (obs s k && obB (s[k].toNat : Int)) := by
  unfold obs
  rw [List.take_succ_eq_append_getElem (by simpa using h), List.all_append]
  simp
  rfl
theorem obs_false (s : ByteArray) (k n : Nat) (h : obs s k = false) (hk : k ≤ n) : obs s n = false := by
  unfold obs at h ⊢
  rw [Bool.eq_false_iff] at h ⊢
  intro hc
  apply h
  rw [List.all_eq_true] at hc ⊢
  intro x hx
  refine hc x ?_
  have : (s.data.toList.take n).take k = s.data.toList.take k := by rw [List.take_take]; congr 1; omega
  rw [← this] at hx
  exact List.mem_of_mem_take hx
def mayB (s : ByteArray) : Bool := decide (0 < s.size) && decide (s.size ≤ 8) && obs s s.size
set_option maxRecDepth 100000 in
set_option maxHeartbeats 2000000 in
theorem may_any (s : ByteArray) (w : World) (hs : s.size ≤ 9223372036854775807) : Calls Tryz.prog 72 #[.string s] w fun e w' => e = .returned (.bool (mayB s)) ∧ w' = w := by
  by_cases h0 : s.size = 0
  · have H := Lib.hid (show mayB s = false by simp [mayB, h0])
    have he : s.toList = [] := by
      rw [ByteArray.toList_eq]
      exact List.eq_nil_of_length_eq_zero (by rw [← h0]; rfl)
    have he2 : s.toList.isEmpty = true := by rw [he]; rfl
    clear h0
    go_enter Tryz.func72, Tryz.ntmps72
    go_wp2_with fail
    go_ret
    exact ⟨by rw [H.out]; first | rfl | exact ret_bool (by simp; omega), rfl⟩
  · have he2 : s.toList.isEmpty = false := by
      rw [ByteArray.toList_eq]
      cases hh : s.data.toList with
      | nil =>
        exfalso
        apply h0
        have : s.data.toList.length = 0 := by rw [hh]; rfl
        exact this
      | cons a b => rfl
    have he : (s.toList = []) = False := by
      simp
      intro hh
      rw [hh] at he2
      cases he2
    by_cases h8 : 8 < s.size
    · have H := Lib.hid (show mayB s = false by simp [mayB]; omega)
      have h8' : (8 : Int) < s.size := by omega
      clear h0
      go_enter Tryz.func72, Tryz.ntmps72
      go_wp2_with fail
      go_ret
      exact ⟨by rw [H.out]; first | rfl | exact ret_bool (by simp; omega), rfl⟩
    · have h8' : ¬ (8 : Int) < s.size := by omega
      have HM := Lib.hid (show mayB s = obs s s.size by simp [mayB]; omega)
      clear h0
      go_enter Tryz.func72, Tryz.ntmps72
      go_wp2_with fail
      go_loop [13] (fun i => ∃ k : Nat, i = .int .i64 k ∧ k ≤ s.size ∧ Hid (obs s k = true)) (fun i => s.size - (intOf i).toNat)
      case atStart => exact ⟨0, rfl, by omega, obs_zero s⟩
      case round =>
        obtain ⟨k, rfl, hk, HH⟩ := hrel
        by_cases hlt : k < s.size
        · have HS := Lib.hid (obs_snoc s k hlt)
          have HF := Lib.hid (obs_false s (k + 1) s.size)
          have HO := Lib.hid fun W => ob_any (s[k].toNat : Int) W (by omega) (by have := s[k].toNat_lt; omega)
          obtain ⟨C, hC⟩ : ∃ C, obB (s[k].toNat : Int) = C := ⟨_, rfl⟩
          rw [hC] at HS HO
          clear hC
          go_wp2_with fail
          refine (HO.out _).mono ?_
          rintro e w1 ⟨rfl, rfl⟩
          cases C
          · go_wp2_with fail
            go_ret
            refine ⟨ret_bool ?_, rfl⟩
            rw [HM.out, HF.out (by rw [HS.out]; simp) (by omega)]
          · go_wp2_with fail
            go_round
            case rel => exact ⟨k + 1, by go_num, by omega, Lib.hid (by rw [HS.out, HH.out]; rfl)⟩
            case measure => simp [intOf]; omega
        · obtain rfl : k = s.size := by omega
          go_wp2_with fail
          go_ret
          exact ⟨ret_bool (by rw [HM.out, HH.out]), rfl⟩
end Go.Proofs.YtilneflfeegnfaaGreat.Hl
namespace Go.Proofs.YtilneflfeegnfaaGreat.Hl
open Go.RowKit
def lo : List Hr → Int → Nat
  | [], _ => 0
  | x :: r, a => if x.a < a then lo r a + 1 else 0
theorem lo_le (a : Int) : ∀ xs, lo xs a ≤ xs.length
  | [] => Nat.le_refl _
  | x :: r => by
    unfold lo
    have := lo_le a r
    split <;> simp
    omega
theorem lo_lt (a : Int) : ∀ (xs : List Hr) (k : Nat) (x : Hr), k < lo xs a → xs[k]? = some x → x.a < a
  | [], k, x, h, _ => by simp [lo] at h
  | y :: r, k, x, h, hx => by
    unfold lo at h
    split at h
    · rename_i hy
      cases k with
      | zero => simp at hx; subst hx; exact hy
      | succ k => exact lo_lt a r k x (by omega) (by simpa using hx)
    · omega
theorem lo_ge (a : Int) : ∀ (xs : List Hr) (x : Hr), xs[lo xs a]? = some x → ¬ x.a < a
  | [], x, hx => by simp at hx
  | y :: r, x, hx => by
    unfold lo at hx
    split at hx
    · exact lo_ge a r x (by simpa using hx)
    · rename_i hy
      simp at hx
      subst hx
      exact hy
def isAt (xs : List Hr) (a : Int) : Bool := match xs[lo xs a]? with
  | some x => decide (x.a = a)
  | none => false
def gt (xs : List Hr) (a : Int) : Hr := if isAt xs a = true then xs[lo xs a]?.getD zh else zh
theorem isAt_some {xs : List Hr} {a : Int} (h : isAt xs a = true) : ∃ x, xs[lo xs a]? = some x ∧ x.a = a ∧ lo xs a < xs.length := by
  unfold isAt at h
  split at h
  · rename_i x hx
    exact ⟨x, hx, by simpa using h, (List.getElem?_eq_some_iff.1 hx).1⟩
  · cases h
set_option maxRecDepth 100000 in
set_option maxHeartbeats 2000000 in
theorem place_any (a : Int) (A : Option Addr) (xs : List Hr) (cap : Nat) (w : World) (h : Hs w A xs) (ha0 : 0 ≤ a) (ha1 : a < 4294967296) :
    Calls Tryz.prog 45 #[.slice A xs.length cap, .int .u32 a] w fun e w' => e = .returned (.tuple #[.int .i64 (lo xs a), .bool (isAt xs a)]) ∧ ∃ n, w' = w.drewN n := by
  have hle := lo_le a xs
  have hln := h.1
  have R := Lib.hid h
  clear h
  have HI := Lib.hid (show isAt xs a = _ by unfold isAt; rfl)
  obtain ⟨L, hL⟩ : ∃ L, xs.length = L := ⟨_, rfl⟩
  have HL := Lib.hid hL
  rw [hL] at hle hln ⊢
  clear hL
  obtain ⟨P, hP⟩ : ∃ P, lo xs a = P := ⟨_, rfl⟩
  have HP := Lib.hid hP
  rw [hP] at hle ⊢
  clear hP
  go_enter Tryz.func45, Tryz.ntmps45
  go_wp2_with fail
  go_loop [6] (fun i => ∃ k : Nat, i = .int .i64 k ∧ k ≤ P) (fun i => P - (intOf i).toNat)
  case atStart => exact ⟨0, rfl, by omega⟩
  case round =>
    obtain ⟨k, rfl, hk⟩ := hrel
    by_cases hkL : k < L
    · obtain ⟨x, hx⟩ : ∃ x, xs[k]? = some x := ⟨_, List.getElem?_eq_getElem (by rw [HL.out]; exact hkL)⟩
      obtain ⟨y, rfl⟩ := hs_some R.out (by rw [HL.out]; omega)
      have hok := R.out.ok hx
      have c0 : w.cell? (y.add (k * 8)) = some (.int .u32 x.a) := by
        have := R.out.at hx 0 _ rfl
        rwa [Addr.add_add] at this
      have X0 : 0 ≤ x.a := hok.1
      have X1 : x.a < 4294967296 := hok.2.1
      by_cases hlt : k < P
      · have hxa : x.a < a := lo_lt a xs k x (by rw [HP.out]; exact hlt) hx
        clear hx hok
        go_wp2_with fail
        go_round
        case rel => exact ⟨k + 1, by go_num, by omega⟩
        case measure => simp [intOf]; omega
      · obtain rfl : k = P := by omega
        have hxa : ¬ x.a < a := lo_ge a xs x (by rw [HP.out]; exact hx)
        have HA := Lib.hid (show isAt xs a = decide (x.a = a) by rw [HI.out, HP.out, hx])
        clear hx hok
        by_cases he : x.a = a
        · have he2 : (x.a == a) = true := by simpa using he
          have HE := Lib.hid he
          clear he
          go_wp2_with fail
          go_quiet (fail)
          go_wp2_with fail
          go_ret2
          refine ⟨?_, _, rfl⟩
          rw [HA.out, decide_eq_true HE.out]; rfl
        · have he2 : (x.a == a) = false := by simpa using he
          have HE := Lib.hid he
          clear he
          go_wp2_with fail
          go_quiet (fail)
          go_wp2_with fail
          go_ret2
          refine ⟨?_, _, rfl⟩
          rw [HA.out, decide_eq_false HE.out]; rfl
    · obtain rfl : k = L := by omega
      obtain rfl : k = P := by omega
      have HA := Lib.hid (show isAt xs a = false by rw [HI.out, HP.out, List.getElem?_eq_none (by rw [HL.out]; exact Nat.le_refl _)])
      go_wp2_with fail
      go_quiet (fail)
      go_wp2_with fail
      go_ret2
      refine ⟨?_, _, rfl⟩
      rw [HA.out]; rfl
theorem Hs.drewN {w : World} {A : Option Addr} {xs : List Hr} (h : Hs w A xs) (n : Nat) : Hs (w.drewN n) A xs := h.below (bdrewN (Below.refl _ _) n)
theorem set8h {w w1 : World} {b : Nat} (h : Below w.heap.size w w1) (hb : w.heap.size ≤ b) (v0 v1 v2 v3 v4 v5 v6 v7 : Value) :
    Below w.heap.size w ((((((((w1.setCell ⟨b, 0, none⟩ v0).setCell ⟨b, 1, none⟩ v1).setCell ⟨b, 2, none⟩ v2).setCell ⟨b, 3, none⟩ v3).setCell ⟨b, 4, none⟩ v4).setCell ⟨b, 5, none⟩ v5).setCell ⟨b, 6, none⟩ v6).setCell ⟨b, 7, none⟩ v7) :=
  (((((((h.setCell hb v0).setCell hb v1).setCell hb v2).setCell hb v3).setCell hb v4).setCell hb v5).setCell hb v6).setCell hb v7
set_option maxRecDepth 100000 in
set_option maxHeartbeats 2000000 in
theorem get_any (a : Int) (A : Option Addr) (xs : List Hr) (cap : Nat) (w : World) (h : Hs w A xs) (hc : xs.length ≤ cap) (ha0 : 0 ≤ a) (ha1 : a < 4294967296) :
    Calls Tryz.prog 22 #[.slice A xs.length cap, .int .u32 a] w fun e w' => e = .returned (.tuple #[hv (gt xs a), .bool (isAt xs a)]) ∧ Below w.heap.size w w' := by
  have hle := lo_le a xs
  have hln := h.1
  have R := Lib.hid h
  have HP := Lib.hid (place_any a A xs cap (w.alloc (.cells #[.int .u32 0, .string ⟨#[]⟩, .int .u8 0, .int .u8 0, .int .u8 0, .int .u8 0, .int .u8 0, .int .u8 0] 44)) (h.below ((Below.refl _ w).alloc (Nat.le_refl _) _)) ha0 ha1)
  have HG := Lib.hid (show gt xs a = _ by unfold gt; rfl)
  have HS := Lib.hid (@isAt_some xs a)
  clear h
  obtain ⟨L, hL⟩ : ∃ L, xs.length = L := ⟨_, rfl⟩
  have HL := Lib.hid hL
  rw [hL] at hle hln HP hc ⊢
  clear hL
  obtain ⟨G, hG⟩ : ∃ G, gt xs a = G := ⟨_, rfl⟩
  rw [hG] at HG ⊢
  clear hG
  obtain ⟨P, hP⟩ : ∃ P, lo xs a = P := ⟨_, rfl⟩
  have HPP := Lib.hid hP
  rw [hP] at hle HP
  clear hP
  obtain ⟨B, hB⟩ : ∃ B, isAt xs a = B := ⟨_, rfl⟩
  have HB := Lib.hid hB
  rw [hB] at HP HG ⊢
  clear hB
  go_enter Tryz.func22, Tryz.ntmps22
  go_wp2_with fail
  refine HP.out.mono ?_
  rintro e w1 ⟨rfl, n1, hw1⟩
  have B1 : Below w.heap.size w w1 := hw1 ▸ bdrewN ((Below.refl _ w).alloc (Nat.le_refl _) _) n1
  have k0 : w1.cell? ⟨w.heap.size, 0, none⟩ = some (.int .u32 0) := by rw [hw1]; simp
  have k1 : w1.cell? ⟨w.heap.size, 1, none⟩ = some (.string ⟨#[]⟩) := by rw [hw1]; simp
  have k2 : w1.cell? ⟨w.heap.size, 2, none⟩ = some (.int .u8 0) := by rw [hw1]; simp
  have k3 : w1.cell? ⟨w.heap.size, 3, none⟩ = some (.int .u8 0) := by rw [hw1]; simp
  have k4 : w1.cell? ⟨w.heap.size, 4, none⟩ = some (.int .u8 0) := by rw [hw1]; simp
  have k5 : w1.cell? ⟨w.heap.size, 5, none⟩ = some (.int .u8 0) := by rw [hw1]; simp
  have k6 : w1.cell? ⟨w.heap.size, 6, none⟩ = some (.int .u8 0) := by rw [hw1]; simp
  have k7 : w1.cell? ⟨w.heap.size, 7, none⟩ = some (.int .u8 0) := by rw [hw1]; simp
  have f8 : ∀ k, w1.frozen? ⟨w.heap.size, k, none⟩ = false := by intro k; rw [hw1]; simp
  have R1 := Lib.hid (R.out.below B1)
  have BB := Lib.hid B1
  clear hw1 B1 HP
  cases B
  · go_wp2_with fail
    exact bodyPost_ret (v := .tuple #[hv zh, .bool false]) (by simp [results, Tryz.results22, go_sem, hv, zh, k0, k1, k2, k3, k4, k5, k6, k7]) rfl ⟨by rw [HG.out]; rfl, set8h BB.out (Nat.le_refl _) _ _ _ _ _ _ _ _⟩
  · obtain ⟨x, hx, hxa, hlt⟩ := HS.out HB.out
    rw [HPP.out] at hx hlt
    rw [HL.out] at hlt
    have HGx := Lib.hid (show G = x by rw [HG.out]; simp [HPP.out, hx])
    obtain ⟨y, rfl⟩ := hs_some R.out (by rw [HL.out]; omega)
    have hat := R1.out.at hx
    obtain ⟨xa, xT, x0, x1, x2, x3, x4, x5⟩ := x
    clear hx hxa
    go_wp2_with (refine at_load33 _ rfl rfl _ _ rfl hat ?_)
    exact bodyPost_ret (v := .tuple #[hv ⟨xa, xT, x0, x1, x2, x3, x4, x5⟩, .bool true]) (by simp [results, Tryz.results22, go_sem, hv, k0, k1, k2, k3, k4, k5, k6, k7]) rfl ⟨by rw [HGx.out], set8h BB.out (Nat.le_refl _) _ _ _ _ _ _ _ _⟩
end Go.Proofs.YtilneflfeegnfaaGreat.Hl
namespace Go.Proofs.YtilneflfeegnfaaGreat.Hl
open Go.RowKit
theorem info33 : (Tryz.prog.info? 44).map (fun i => (i.zero, i.size, i.bytes)) = some (some (hv zh), 8, 32) := by kernel_rfl
theorem run_zeros (w : World) (n : Nat) (ty : TypeId) (h0 : 0 < n) (hn : n ≤ 1000) : (Builtin.append_ #[29, 3] ty #[.slice none 0 0, .int .i64 (n : Int)]).run Tryz.prog w =
    .ok (.slice (some ⟨w.heap.size, 0, none⟩) n (grownCap w n 0 44)) (w.drew.alloc (.cells (Builtin.zeroCells (hv zh).cells n ++ Builtin.zeroCells (hv zh).cells (grownCap w n 0 44 - n)) 44)) := by
  obtain ⟨i, hi, hz0, hz1, hz2⟩ := info_parts info33
  have hne : n ≠ 0 := by omega
  have hw : IntKind.i64.wrap (n : Int) = n := by rw [IntKind.wrap_i64]; omega
  have h1 : ¬ ((n : Int) < 0) := by omega
  have h2 : ¬ (281474976710656 < (n : Int) * 32) := by omega
  have h63' : ¬ (9223372036854775807 < (n : Int)) := by omega
  have h48' : ¬ (281474976710656 < Builtin.nextslicecap n 0 * 32) := by rw [nextslicecap_zero h0]; omega
  have h48 : ¬ (281474976710656 < ((Builtin.nextslicecap n 0 * 32 : Nat) : Int)) := by rw [nextslicecap_zero h0]; omega
  simp [Builtin.append_, run_underlying Tryz.underlying29, run_underlying Tryz.underlying3, sizeOf, typeInfo, zeroValue, hi, hz0, hz1, hz2, hne, hw, h1, h2, h63', h48, h48', Question.forced, run_firstCells_none, newRow, grownCap, asInt, asIntOf]
  intro h; omega
theorem wpList_zeros (w : World) {ops : Array Oper} {rest : List Oper} {o : Oper} {a : Act} {Q : Exit → Act → World → Prop} (hgd : o.guard = none) (s x : Operand) (ho : o.op = .call { callee := .builtin .append, args := #[s, x], argTypes := #[29, 3] })
    (n : Nat) (hs : a.eval s = .slice none 0 0) (hx : a.eval x = .int .i64 (n : Int)) (h0 : 0 < n) (hn : n ≤ 1000)
    (h : ∀ C cap, n ≤ cap → cap ≤ maxLen → C.size = cap * 8 → wpList Tryz.prog ops Q rest (a.put o.dst (.slice (some ⟨w.heap.size, 0, none⟩) n cap)) (w.drew.alloc (.cells C 44))) : wpList Tryz.prog ops Q (o :: rest) a w :=
  wpList_plain hgd fun _ hK => by
    unfold Oper.wp execOp
    simp only [ho, resolve, invoke, builtin, Sem.run_bind, Sem.run_pure, Result.andThen_ok, List.map_toArray, List.map_cons, List.map_nil, hs, hx, run_zeros w n o.type h0 hn]
    have hge := grownCap_ge w n 0 44
    have hle := grownCap_le_maxLen w n 0 44 (by unfold maxLen; omega)
    refine hK _ _ (h _ _ hge hle ?_)
    rw [Array.size_append, size_zeroCells, size_zeroCells]
    show n * 8 + (grownCap w n 0 44 - n) * 8 = _
    omega
def OwnPost (w : World) (n : Nat) (xs : List Hr) (e : Ending) (w' : World) : Prop := ∃ v, e = .returned v ∧ w'.ownsRow w.heap.size 44 8 v n (hcs xs) ∧ Below w.heap.size w w'
set_option maxRecDepth 100000 in
set_option maxHeartbeats 2000000 in
theorem grow_any (n : Nat) (w : World) (hn : n ≤ 1000) : Calls Tryz.prog 115 #[.slice none 0 0, .int .i64 (n : Int)] w (OwnPost w 0 []) := by
  by_cases h0 : n = 0
  · subst h0
    go_enter Tryz.func115, Tryz.ntmps115
    go_wp2_with fail
    go_ret
    exact ⟨_, rfl, World.ownsRow_nil _ _ _ _, Below.refl _ _⟩
  · have h1 : 0 < n := by omega
    have h1' : (0 : Int) < n := by omega
    clear h0
    go_enter Tryz.func115, Tryz.ntmps115
    go_wp2_with (at_builtin; refine wpList_zeros _ rfl (.tmp 20) (.tmp 21) rfl n (by simp [Act.eval, Act.put]) (by simp [Act.eval, Act.put]) h1 hn ?_)
    intro C cap hge hle hsz
    have HZ := Lib.hid hsz
    have HM := Lib.hid hle
    unfold maxLen at hle
    clear hsz
    go_wp2_with fail
    go_ret
    exact ⟨_, rfl, World.ownsRow_made (w.drew) C cap (Nat.le_refl _) HM.out HZ.out, (Below.refl _ w).drew.alloc (Nat.le_refl _) _⟩
theorem run_append_no (w : World) (base : Nat) (ty : TypeId) (v : Value) (n c : Nat) (xs : List Value) (hown : w.ownsRow base 44 8 v n xs) : (Builtin.append_ #[29, 29] ty #[v, .slice none 0 c]).run Tryz.prog w = .ok v w := by
  obtain ⟨i, hi, _⟩ := info_parts info33
  rcases hown.2 with ⟨rfl, rfl⟩ | ⟨g, cap, cur, rfl, _, _, hle, _⟩
  · simp [Builtin.append_, run_underlying Tryz.underlying29, sizeOf, typeInfo, hi, Builtin.lenOf, Builtin.firstCells]
  · simp [Builtin.append_, run_underlying Tryz.underlying29, sizeOf, typeInfo, hi, Builtin.lenOf, Builtin.firstCells, hle, storeCells]
theorem run_append_hs (w : World) (base : Nat) (ty : TypeId) (v : Value) (n : Nat) (xs : List Hr) (hown : w.ownsRow base 44 8 v n (hcs xs)) (A : Option Addr) (m c : Nat) (ys : List Hr) (hm : m = ys.length) (hr : Hs w A ys)
    (hlen : n + m ≤ 1000000) (hbase : base ≤ w.heap.size) :
    ∃ v' w', (Builtin.append_ #[29, 29] ty #[v, .slice A m c]).run Tryz.prog w = .ok v' w' ∧ w'.ownsRow base 44 8 v' (n + m) (hcs (xs ++ ys)) ∧ w.grownBy w' v.ownBlock := by
  subst hm
  rw [hcs_append]
  rcases A with _ | x
  · have hz : ys = [] := by
      rcases Nat.eq_zero_or_pos ys.length with h0 | h0
      · exact List.eq_nil_of_length_eq_zero h0
      · obtain ⟨x, hx⟩ := hs_some hr h0
        cases hx
    subst hz
    refine ⟨v, w, run_append_no w base ty v n c _ hown, ?_, ⟨rfl, rfl, rfl, Nat.le_refl _, fun _ _ _ => rfl⟩⟩
    simpa [hcs] using hown
  · obtain ⟨i, hi, hz0, hz1, hz2⟩ := info_parts info33
    obtain ⟨v', w', hrun, h2, h3, _, h5⟩ := run_append_own_at (P := Tryz.prog) w base 29 ty 44 i (hv zh) 8 32 Tryz.underlying29 hi hz0 hz1 hz2 rfl (by omega) v n (hcs xs) hown x ys.length c (hcs ys) (by rw [hcs_length]) hr.cells (hcs_one ys) (by unfold maxLen; omega) (by omega) hbase
    exact ⟨v', w', hrun, h2, h3⟩
theorem wpList_append_hs (w : World) {ops : Array Oper} {rest : List Oper} {o : Oper} {a : Act} {Q : Exit → Act → World → Prop} (hgd : o.guard = none) (s x : Operand) (ho : o.op = .call { callee := .builtin .append, args := #[s, x], argTypes := #[29, 29] })
    (base : Nat) (v : Value) (n : Nat) (xs : List Hr) (hs : a.eval s = v) (hown : w.ownsRow base 44 8 v n (hcs xs)) (A : Option Addr) (m c : Nat) (ys : List Hr) (hx : a.eval x = .slice A m c) (hm : m = ys.length) (hr : Hs w A ys)
    (hlen : n + m ≤ 1000000) (hbase : base ≤ w.heap.size)
    (h : ∀ v' w', w'.ownsRow base 44 8 v' (n + m) (hcs (xs ++ ys)) → w.grownBy w' v.ownBlock → wpList Tryz.prog ops Q rest (a.put o.dst v') w') : wpList Tryz.prog ops Q (o :: rest) a w :=
  wpList_plain hgd fun _ hK => by
    obtain ⟨v', w', hrun, h2, h3⟩ := run_append_hs w base o.type v n xs hown A m c ys hm hr hlen hbase
    unfold Oper.wp execOp
    simp only [ho, resolve, invoke, builtin, Sem.run_bind, Sem.run_pure, Result.andThen_ok, List.map_toArray, List.map_cons, List.map_nil, hs, hx, hrun]
    exact hK _ _ (h v' w' h2 h3)
structure Pt where
  A : Option Addr
  xs : List Hr
  c : Nat
def Pm (w : World) (b : Nat) (ps : List Pt) : Prop := b < w.heap.size ∧ ∀ (k : Nat) (p : Pt), ps[k]? = some p → w.cell? ⟨b, k, none⟩ = some (.slice p.A p.xs.length p.c) ∧ Hs w p.A p.xs
def cat (ps : List Pt) (k : Nat) : List Hr := (ps.take k).flatMap (·.xs)
theorem cat_zero (ps : List Pt) : cat ps 0 = [] := by simp [cat]
theorem cat_snoc {ps : List Pt} {k : Nat} {p : Pt} (h : ps[k]? = some p) : cat ps (k + 1) = cat ps k ++ p.xs := by
  unfold cat
  rw [List.take_add_one, h]
  simp
theorem cat_le (ps : List Pt) (k : Nat) : (cat ps k).length ≤ (cat ps ps.length).length := by
  unfold cat
  rw [List.take_length]
  have : ps = ps.take k ++ ps.drop k := (List.take_append_drop k ps).symm
  conv => rhs; rw [this]
  rw [List.flatMap_append, List.length_append]
  omega
set_option maxRecDepth 100000 in
set_option maxHeartbeats 4000000 in
theorem concat_any (ps : List Pt) (b c : Nat) (w : World) (h : Pm w b ps) (hn : (cat ps ps.length).length ≤ 1000) (hps : ps.length ≤ 10) :
    Calls Tryz.prog 73 #[.slice (some ⟨b, 0, none⟩) ps.length c] w (OwnPost w (cat ps ps.length).length (cat ps ps.length)) := by
  have HP := Lib.hid h
  have hb := h.1
  have HC := Lib.hid (cat_le ps)
  have HS := Lib.hid (fun (k : Nat) (p : Pt) (h : ps[k]? = some p) => cat_snoc h)
  obtain ⟨L, hL⟩ : ∃ L, ps.length = L := ⟨_, rfl⟩
  have HL := Lib.hid hL
  rw [hL] at hn hps HC ⊢
  clear hL h
  go_enter Tryz.func73, Tryz.ntmps73
  go_wp2_with fail
  go_loop [3, 11] (fun s i => ∃ k : Nat, i = .int .i64 k ∧ k ≤ L ∧ s = .int .i64 ((cat ps k).length : Nat)) (fun _ i => L - (intOf i).toNat)
  case atStart => exact ⟨0, rfl, by omega, by rw [cat_zero]; rfl⟩
  case round =>
    obtain ⟨k, rfl, hk, rfl⟩ := hrel
    have hkc := HC.out k
    by_cases hlt : k < L
    · obtain ⟨p, hp⟩ : ∃ p, ps[k]? = some p := ⟨_, List.getElem?_eq_getElem (by rw [HL.out]; exact hlt)⟩
      have k0 := (HP.out.2 k p hp).1
      have hkc1 := HC.out (k + 1)
      have HK := Lib.hid (HS.out _ _ hp)
      rw [HK.out, List.length_append] at hkc1
      obtain ⟨A, xs, pc⟩ := p
      dsimp only at k0 hkc1 HK
      have HX := Lib.hid (show (cat ps (k + 1)).length = (cat ps k).length + xs.length by rw [HK.out, List.length_append])
      generalize (cat ps k).length = N at *
      clear hp
      go_wp2_with fail
      go_round
      case rel => exact ⟨k + 1, by go_num, by omega, by rw [HX.out]; go_num⟩
      case measure => simp [intOf]; omega
    · obtain rfl : k = L := by omega
      have HG := Lib.hid (grow_any (cat ps k).length w hn)
      obtain ⟨N, hN⟩ : ∃ N, (cat ps k).length = N := ⟨_, rfl⟩
      have HN := Lib.hid hN
      rw [hN] at HG hn HC ⊢
      clear hN hkc
      go_wp2_with fail
      refine HG.out.mono ?_
      rintro e w1 ⟨v1, rfl, ho, hb1⟩
      have O1 := Lib.hid ho
      have B1 := Lib.hid hb1
      clear ho hb1
      go_wp2_with fail
      go_loopw [6, 27] (fun v i wr => ∃ q : Nat, i = .int .i64 q ∧ q ≤ k ∧ Hid (wr.ownsRow w.heap.size 44 8 v (cat ps q).length (hcs (cat ps q)) ∧ Below w.heap.size w wr)) (fun _ i _ => k - (intOf i).toNat)
      case atStart => exact ⟨0, rfl, by omega, Lib.hid ⟨by rw [cat_zero]; exact O1.out, B1.out⟩⟩
      case round =>
        obtain ⟨q, rfl, hq, HR⟩ := hrel
        by_cases hlt : q < k
        · obtain ⟨p, hp⟩ : ∃ p, ps[q]? = some p := ⟨_, List.getElem?_eq_getElem (by rw [HL.out]; exact hlt)⟩
          obtain ⟨k0, kH⟩ := HP.out.2 q p hp
          have k1 : wr.cell? ⟨b, q, none⟩ = some (.slice p.A p.xs.length p.c) := by rw [HR.out.2.cell (p := ⟨b, q, none⟩) hb]; exact k0
          have kH1 := kH.below HR.out.2
          have hkc1 := HC.out (q + 1)
          have HK := Lib.hid (HS.out _ _ hp)
          rw [HK.out, List.length_append] at hkc1
          have hlen : (cat ps q).length + p.xs.length ≤ 1000000 := by omega
          obtain ⟨A, xs, pc⟩ := p
          dsimp only at k1 kH1 hkc1 HK hlen
          have hbase : w.heap.size ≤ wr.heap.size := HR.out.2.size
          have ho := HR.out.1
          have HH := Lib.hid kH1
          clear hp k0 kH kH1
          go_wp2_with (at_builtin; refine wpList_append_hs _ rfl (.tmp 31) (.tmp 32) rfl w.heap.size _ _ _ (by simp [Act.eval, Act.put]) ho A xs.length pc xs (by simp [Act.eval, Act.put]) rfl HH.out hlen hbase ?_)
          intro v2 w2 ho2 hg2
          have O2 := Lib.hid ho2
          have B2 := Lib.hid (HR.out.2.grown hg2 hbase (fun j hj => (ho.lt j hj).1))
          clear ho2 hg2 ho
          go_wp2_with fail
          go_roundw
          case rel => exact ⟨q + 1, by go_num, by omega, Lib.hid ⟨by rw [HK.out, List.length_append]; exact O2.out, B2.out⟩⟩
          case measure => simp [intOf]; omega
        · obtain rfl : q = k := by omega
          go_wp2_with fail
          go_ret
          refine ⟨_, rfl, ?_, HR.out.2⟩
          rw [← HN.out]
          exact HR.out.1
end Go.Proofs.YtilneflfeegnfaaGreat.Hl
namespace Go.Proofs.YtilneflfeegnfaaGreat.Hl
open Go.RowKit
def dA (A : Option Addr) (c k : Nat) : Option Addr := if c = k then A else A.map (·.add (k * 8))
theorem Hs.rest {w : World} {A : Option Addr} {xs : List Hr} (h : Hs w A xs) {c : Nat} (hc : xs.length ≤ c) (k : Nat) : Hs w (dA A c k) (xs.drop k) := by
  unfold dA
  split
  · rename_i e
    rw [List.drop_eq_nil_of_le (by omega)]
    exact Hs.nil _ _
  · cases A with
    | none =>
      have : xs = [] := by
        rcases Nat.eq_zero_or_pos xs.length with h0 | h0
        · exact List.eq_nil_of_length_eq_zero h0
        · obtain ⟨x, hx⟩ := hs_some h h0
          cases hx
      subst this
      rw [List.drop_nil]
      exact Hs.nil _ _
    | some y => exact h.drop k
theorem size33' : (Tryz.prog.info? 44).map (·.size) = some 8 := by kernel_rfl
theorem run_size33 (W : World) : (Go.sizeOf 44).run Tryz.prog W = .ok 8 W := by
  obtain ⟨i, hi, hs⟩ := Option.map_eq_some_iff.1 size33'
  rw [← hs]
  simp [Go.sizeOf, typeInfo, hi]
theorem sl_h (A : Option Addr) (n c i : Nat) (hi : i ≤ c) (W : World) : (Instr.slice 29 (.slice A n c) none (some (.int .i64 (i : Int))) none).run Tryz.prog W = .ok (.slice A i c) W := by
  have h1 : (i : Int) ≤ c := by omega
  have h2 : A.map (·.add (0 * 8)) = A := by cases A <;> simp [Addr.add]
  unfold Instr.slice Instr.sliceBounds Instr.sliceBound
  simp only [Sem.run_bind, run_underlying Tryz.underlying29, Result.andThen_ok, Sem.run_pure, run_size33, asIntOf]
  try simp only [Option.isSome_none, Bool.false_eq_true, if_false, Sem.run_bind, Sem.run_pure, Result.andThen_ok]
  rw [if_pos ⟨by omega, h1⟩]
  simp only [Sem.run_bind, Sem.run_pure, Result.andThen_ok, h2, ite_self, Nat.sub_zero, Int.toNat_natCast]
theorem sl_l (A : Option Addr) (n c k : Nat) (hk : k ≤ n) (hc : n ≤ c) (W : World) : (Instr.slice 29 (.slice A n c) (some (.int .i64 (k : Int))) none none).run Tryz.prog W = .ok (.slice (dA A c k) (n - k) (c - k)) W := by
  have h1 : (k : Int) ≤ n := by omega
  unfold Instr.slice Instr.sliceBounds Instr.sliceBound
  simp only [Sem.run_bind, run_underlying Tryz.underlying29, Result.andThen_ok, Sem.run_pure, run_size33, asIntOf]
  try simp only [Option.isSome_none, Bool.false_eq_true, if_false, Sem.run_bind, Sem.run_pure, Result.andThen_ok]
  rw [if_pos ⟨by omega, h1⟩]
  simp only [Sem.run_bind, Sem.run_pure, Result.andThen_ok, Int.toNat_natCast]
  rfl
def pF (ps : List Pt) : Value → World → Prop := fun v W => ∃ b, v = .slice (some ⟨b, 0, none⟩) ps.length ps.length ∧ Pm W b ps
theorem Pm.below {w w' : World} {b : Nat} {ps : List Pt} (h : Pm w b ps) (hb : Below w.heap.size w w') : Pm w' b ps :=
  ⟨Nat.lt_of_lt_of_le h.1 hb.size, fun k p hp => ⟨by rw [hb.cell (p := ⟨b, k, none⟩) h.1]; exact (h.2 k p hp).1, (h.2 k p hp).2.below hb⟩⟩
theorem stable_pF (ps : List Pt) : Stable (pF ps) := fun _ _ _ ⟨b, hv, hP⟩ hb => ⟨b, hv, Pm.below hP hb⟩
def oF (B : Nat) (ys : List Hr) : Value → World → Prop := fun v W => W.ownsRow B 44 8 v ys.length (hcs ys)
theorem stable_oF (B : Nat) (ys : List Hr) : Stable (oF B ys) := fun _ _ _ h hb => own_keep h hb
def hF (h : Hr) : Value → World → Prop := fun v W => ∃ b, v = .slice (some ⟨b, 0, none⟩) 1 1 ∧ Hs W (some ⟨b, 0, none⟩) [h]
theorem stable_hF (h : Hr) : Stable (hF h) := fun _ _ _ ⟨b, hv, hP⟩ hb => ⟨b, hv, hP.below hb⟩
theorem pm_two (W : World) (p q : Pt) (t : TypeId) (hp : Hs W p.A p.xs) (hq : Hs W q.A q.xs) : Pm (W.alloc (.cells #[.slice p.A p.xs.length p.c, .slice q.A q.xs.length q.c] t)) W.heap.size [p, q] := by
  refine ⟨by simp, fun k r hr => ?_⟩
  match k, hr with
  | 0, hr => simp at hr; subst hr; exact ⟨by simp, hp.below ((Below.refl _ _).alloc (Nat.le_refl _) _)⟩
  | 1, hr => simp at hr; subst hr; exact ⟨by simp, hq.below ((Below.refl _ _).alloc (Nat.le_refl _) _)⟩
  | k + 2, hr => simp at hr
theorem pm_three (W : World) (p q s : Pt) (t : TypeId) (hp : Hs W p.A p.xs) (hq : Hs W q.A q.xs) (hs : Hs W s.A s.xs) : Pm (W.alloc (.cells #[.slice p.A p.xs.length p.c, .slice q.A q.xs.length q.c, .slice s.A s.xs.length s.c] t)) W.heap.size [p, q, s] := by
  refine ⟨by simp, fun k r hr => ?_⟩
  match k, hr with
  | 0, hr => simp at hr; subst hr; exact ⟨by simp, hp.below ((Below.refl _ _).alloc (Nat.le_refl _) _)⟩
  | 1, hr => simp at hr; subst hr; exact ⟨by simp, hq.below ((Below.refl _ _).alloc (Nat.le_refl _) _)⟩
  | 2, hr => simp at hr; subst hr; exact ⟨by simp, hs.below ((Below.refl _ _).alloc (Nat.le_refl _) _)⟩
  | k + 3, hr => simp at hr
theorem hs_box (W : World) (x : Hr) (hx : x.ok) : Hs (W.alloc (Hx x)) (some ⟨W.heap.size, 0, none⟩) [x] := by
  refine ⟨by simp, fun q z hq => ?_⟩
  match q, hq with
  | 0, hq =>
    simp at hq
    subst hq
    refine ⟨hx, _, rfl, fun j v hv => ?_⟩
    rw [Addr.add_mid]
    match j, hv with
    | 0, h => simp [hl] at h; subst h; simp [Hx]
    | 1, h => simp [hl] at h; subst h; simp [Hx]
    | 2, h => simp [hl] at h; subst h; simp [Hx]
    | 3, h => simp [hl] at h; subst h; simp [Hx]
    | 4, h => simp [hl] at h; subst h; simp [Hx]
    | 5, h => simp [hl] at h; subst h; simp [Hx]
    | 6, h => simp [hl] at h; subst h; simp [Hx]
    | 7, h => simp [hl] at h; subst h; simp [Hx]
    | j + 8, h => simp [hl] at h
  | q + 1, hq => simp at hq
def OutPost (w : World) (ys : List Hr) (q : Int) (e : Ending) (w' : World) : Prop :=
  ∃ A cap, e = .returned (.tuple #[.slice A ys.length cap, .int .i64 q]) ∧ ys.length ≤ cap ∧ cap ≤ maxLen ∧ Hs w' A ys ∧ Below w.heap.size w w'
theorem out_no (w w' : World) (q : Int) (hb : Below w.heap.size w w') : OutPost w [] q (.returned (.tuple #[.slice none 0 0, .int .i64 q])) w' :=
  ⟨none, 0, rfl, by simp, by unfold maxLen; omega, Hs.nil _ _, hb⟩
theorem out_yes {w w' : World} {B : Nat} {v : Value} {ys : List Hr} (h : w'.ownsRow B 44 8 v ys.length (hcs ys)) (hok : ∀ x ∈ ys, x.ok) (hn : ys.length ≤ 1000) (hb : Below w.heap.size w w') : OutPost w ys 0 (.returned (.tuple #[v, .int .i64 0])) w' := by
  obtain ⟨A, cap, rfl, hc, hm, _, hH, _⟩ := own_hs h hok (by omega)
  exact ⟨A, cap, rfl, hc, hm, hH, hb⟩
def del (xs : List Hr) (a : Int) : List Hr := xs.take (lo xs a) ++ xs.drop (lo xs a + 1)
def takeC (xs : List Hr) (a : Int) : Int := if isAt xs a = true then 0 else 7
def takeR (xs : List Hr) (a : Int) : List Hr := if isAt xs a = true then del xs a else []
def ins (xs : List Hr) (h : Hr) : List Hr := xs.take (lo xs h.a) ++ [h] ++ xs.drop (lo xs h.a)
def putC (xs : List Hr) (h : Hr) : Int := if mayB h.T = false then 12 else if isAt xs h.a = true then 6 else if 48 ≤ xs.length then 4 else 0
def putR (xs : List Hr) (h : Hr) : List Hr := if putC xs h = 0 then ins xs h else []
theorem hs_oks {w : World} {A : Option Addr} {xs : List Hr} (h : Hs w A xs) : ∀ x ∈ xs, x.ok := by
  intro x hx
  obtain ⟨q, hq, rfl⟩ := List.mem_iff_getElem.1 hx
  exact h.ok (List.getElem?_eq_getElem hq)
theorem del_sub {xs : List Hr} {a : Int} {x : Hr} (h : x ∈ del xs a) : x ∈ xs := by
  unfold del at h
  rcases List.mem_append.1 h with h | h
  · exact List.mem_of_mem_take h
  · exact List.mem_of_mem_drop h
theorem ins_sub {xs : List Hr} {h x : Hr} (hx : x ∈ ins xs h) : x = h ∨ x ∈ xs := by
  unfold ins at hx
  rcases List.mem_append.1 hx with hx | hx
  · rcases List.mem_append.1 hx with hx | hx
    · exact .inr (List.mem_of_mem_take hx)
    · exact .inl (by simpa using hx)
  · exact .inr (List.mem_of_mem_drop hx)
set_option maxRecDepth 100000 in
set_option maxHeartbeats 4000000 in
theorem take_any (a : Int) (A : Option Addr) (xs : List Hr) (cap : Nat) (w : World) (h : Hs w A xs) (hc : xs.length ≤ cap) (hx9 : xs.length ≤ 900) (ha0 : 0 ≤ a) (ha1 : a < 4294967296) :
    Calls Tryz.prog 31 #[.slice A xs.length cap, .int .u32 a] w (OutPost w (takeR xs a) (takeC xs a)) := by
  have hle := lo_le a xs
  have hln := h.1
  have R := Lib.hid h
  have HP := Lib.hid (place_any a A xs cap w h ha0 ha1)
  cases hB : isAt xs a
  · have HT := Lib.hid (show takeR xs a = [] ∧ takeC xs a = 7 by simp [takeR, takeC, hB])
    rw [hB] at HP
    rw [HT.out.1, HT.out.2]
    clear hB h HT
    generalize xs.length = L at *
    generalize lo xs a = P at *
    go_enter Tryz.func31, Tryz.ntmps31
    go_wp2_with fail
    refine HP.out.mono ?_
    rintro e w1 ⟨rfl, n1, hw1⟩
    have B1 := Lib.hid (show Below w.heap.size w w1 from hw1 ▸ bdrewN (Below.refl _ _) n1)
    clear hw1
    go_wp2_with fail
    go_ret2
    exact out_no w w1 7 B1.out
  · obtain ⟨x, hxx, hxa, hlt⟩ := isAt_some hB
    have HT := Lib.hid (show takeR xs a = del xs a ∧ takeC xs a = 0 by simp [takeR, takeC, hB])
    rw [hB] at HP
    rw [HT.out.1, HT.out.2]
    obtain ⟨y, rfl⟩ := hs_some h (by omega)
    obtain ⟨ys, hys⟩ : ∃ ys, del xs a = ys := ⟨_, rfl⟩
    obtain ⟨ps, hps⟩ : ∃ ps : List Pt, ps = [⟨some y, xs.take (lo xs a), cap⟩, ⟨dA (some y) cap (lo xs a + 1), xs.drop (lo xs a + 1), cap - (lo xs a + 1)⟩] := ⟨_, rfl⟩
    have e1 : (xs.take (lo xs a)).length = lo xs a := by rw [List.length_take]; omega
    have e2 : (xs.drop (lo xs a + 1)).length = xs.length - (lo xs a + 1) := by rw [List.length_drop]
    have hcat : cat ps ps.length = ys := by rw [← hys, hps]; simp [cat, del]
    have hyl : ys.length ≤ 1000 := by rw [← hys]; unfold del; rw [List.length_append, e1, e2]; omega
    have hok : ∀ z ∈ ys, z.ok := fun z hz => hs_oks h z (del_sub (hys ▸ hz))
    have HPM := Lib.hid (show ∀ W, Below w.heap.size w W → pF ps (.slice (some ⟨W.heap.size, 0, none⟩) 2 2) (W.alloc (.cells #[.slice (some y) (lo xs a) cap, .slice (dA (some y) cap (lo xs a + 1)) (xs.length - (lo xs a + 1)) (cap - (lo xs a + 1))] 29)) from fun W hW => by
      subst hps
      have hH := h.below hW
      have := pm_two W ⟨some y, xs.take (lo xs a), cap⟩ ⟨dA (some y) cap (lo xs a + 1), xs.drop (lo xs a + 1), cap - (lo xs a + 1)⟩ 29 (hH.take _) (hH.rest hc _)
      dsimp only at this
      rw [e1, e2] at this
      exact ⟨_, rfl, this⟩)
    have HCC := Lib.hid (show ∀ W, Below w.heap.size w W → ∀ b, Pm W b ps → Calls Tryz.prog 73 #[.slice (some ⟨b, 0, none⟩) 2 2] W fun e w' => ∃ v, e = .returned v ∧ Below W.heap.size W w' ∧ oF w.heap.size ys v w' from fun W hW b hb => by
      have := concat_any ps b 2 W hb (by rw [hcat]; exact hyl) (by rw [hps]; simp)
      rw [hcat, show ps.length = 2 by rw [hps]; rfl] at this
      refine this.mono ?_
      rintro e w' ⟨v, he, ho, hbb⟩
      exact ⟨v, he, hbb, own_base ho hW.size⟩)
    have HSH := Lib.hid (fun W => sl_h (some y) xs.length cap (lo xs a) (by omega) W)
    have HSL := Lib.hid (fun W => sl_l (some y) xs.length cap (lo xs a + 1) (by omega) hc W)
    have HPL := Lib.hid (show ps.length = 2 by rw [hps]; rfl)
    have HOK := Lib.hid hok
    have HYL := Lib.hid hyl
    rw [hys]
    have HW := Lib.hid (show IntKind.i64.wrap ((lo xs a : Int) + 1) = (lo xs a : Int) + 1 by rw [IntKind.wrap_i64]; omega)
    clear hps hcat hys hok hyl e1 e2 h hxx hxa HT hB
    generalize xs.length = L at *
    generalize lo xs a = P at *
    go_enter Tryz.func31, Tryz.ntmps31
    go_wp2_with fail
    refine HP.out.mono ?_
    rintro e w1 ⟨rfl, n1, hw1⟩
    have HB1 := Lib.hid (show Below w.heap.size w w1 from hw1 ▸ bdrewN (Below.refl _ _) n1)
    clear hw1
    go_wp2_with fail
    refine wp_region_below [fx (.slice (some y) L cap), fx (.int .i64 (P : Int)), fx (.slice (some y) P cap), fx (.slice (some y) L cap), fx (.int .i64 (P : Int)), fx (.int .i64 ((P + 1 : Nat) : Int)), fx (.slice (dA (some y) cap (P + 1)) (L - (P + 1)) (cap - (P + 1))), pF ps, oF w.heap.size ys, oF w.heap.size ys, fx (.int .i64 0)]
      (by kernel_rfl) (by kernel_rfl) (by kernel_rfl) ?_ ?_ ?_
    · simp only [List.mem_cons, List.not_mem_nil, or_false]
      rintro φ (rfl | rfl | rfl | rfl | rfl | rfl | rfl | rfl | rfl | rfl | rfl)
      all_goals first | exact stable_fx _ | exact stable_fr _ _ | exact stable_pF _ | exact stable_oF _ _
    · refine OgSteps.cons ?_ (OgSteps.cons ?_ (OgSteps.cons ?_ (OgSteps.cons ?_ (OgSteps.cons ?_ (OgSteps.cons ?_ (OgSteps.cons ?_ (OgSteps.cons ?_ (OgSteps.cons ?_ (OgSteps.cons ?_ (OgSteps.cons ?_ (OgSteps.nil)))))))))))
      · refine OgStep.pure ?_ ?_
        · rfl
        intro u W hS hp
        refine ⟨.slice (some y) L cap, ?_, rfl⟩
        simp only [ogMk, Act.put, List.setIfInBounds_toArray, List.set_cons_zero, List.set_cons_succ, Nat.zero_add, Nat.reduceAdd]
        simp [execOp, Act.eval, go_sem]
      · refine OgStep.pure ?_ ?_
        · rfl
        intro u W hS hp
        refine ⟨.int .i64 (P : Int), ?_, rfl⟩
        simp only [ogMk, Act.put, List.setIfInBounds_toArray, List.set_cons_zero, List.set_cons_succ, Nat.zero_add, Nat.reduceAdd]
        simp [execOp, Act.eval, go_sem]
      · refine OgStep.pure ?_ ?_
        · rfl
        intro u W hS hp
        have h0 : u 0 = .slice (some y) L cap := hp ⟨0, .data⟩ (by simp) rfl
        have h1 : u 1 = .int .i64 (P : Int) := hp ⟨1, .data⟩ (by simp) rfl
        have R := HSH.out W
        refine ⟨.slice (some y) P cap, ?_, rfl⟩
        simp only [ogMk, Act.put, List.setIfInBounds_toArray, List.set_cons_zero, List.set_cons_succ, Nat.zero_add, Nat.reduceAdd]
        simp [execOp, Act.eval, go_sem, h0, h1, R]
      · refine OgStep.pure ?_ ?_
        · rfl
        intro u W hS hp
        refine ⟨.slice (some y) L cap, ?_, rfl⟩
        simp only [ogMk, Act.put, List.setIfInBounds_toArray, List.set_cons_zero, List.set_cons_succ, Nat.zero_add, Nat.reduceAdd]
        simp [execOp, Act.eval, go_sem]
      · refine OgStep.pure ?_ ?_
        · rfl
        intro u W hS hp
        refine ⟨.int .i64 (P : Int), ?_, rfl⟩
        simp only [ogMk, Act.put, List.setIfInBounds_toArray, List.set_cons_zero, List.set_cons_succ, Nat.zero_add, Nat.reduceAdd]
        simp [execOp, Act.eval, go_sem]
      · refine OgStep.pure ?_ ?_
        · rfl
        intro u W hS hp
        have h4 : u 4 = .int .i64 (P : Int) := hp ⟨4, .data⟩ (by simp) rfl
        have R := HW.out
        refine ⟨.int .i64 ((P + 1 : Nat) : Int), ?_, rfl⟩
        simp only [ogMk, Act.put, List.setIfInBounds_toArray, List.set_cons_zero, List.set_cons_succ, Nat.zero_add, Nat.reduceAdd]
        simp [execOp, Act.eval, go_sem, h4, R]
      · refine OgStep.pure ?_ ?_
        · rfl
        intro u W hS hp
        have h3 : u 3 = .slice (some y) L cap := hp ⟨3, .data⟩ (by simp) rfl
        have h5 : u 5 = .int .i64 ((P + 1 : Nat) : Int) := hp ⟨5, .data⟩ (by simp) rfl
        have R := HSL.out W
        rw [Int.natCast_add, Int.natCast_one] at R
        refine ⟨.slice (dA (some y) cap (P + 1)) (L - (P + 1)) (cap - (P + 1)), ?_, rfl⟩
        simp only [ogMk, Act.put, List.setIfInBounds_toArray, List.set_cons_zero, List.set_cons_succ, Nat.zero_add, Nat.reduceAdd]
        simp [execOp, Act.eval, go_sem, h3, h5, R]
      · refine OgStep.made ?_ ?_
        · rfl
        intro u W hS hp
        have h2 : u 2 = .slice (some y) P cap := hp ⟨2, .data⟩ (by simp) rfl
        have h6 : u 6 = .slice (dA (some y) cap (P + 1)) (L - (P + 1)) (cap - (P + 1)) := hp ⟨6, .data⟩ (by simp) rfl
        refine ⟨.slice (some ⟨W.heap.size, 0, none⟩) 2 2, _, ?_, (Below.refl _ W).alloc (Nat.le_refl _) _, HPM.out W (HB1.out.trans (hS.mono HB1.out.size))⟩
        simp only [ogMk, Act.put, List.setIfInBounds_toArray, List.set_cons_zero, List.set_cons_succ, Nat.zero_add, Nat.reduceAdd]
        simp [execOp, Act.eval, go_sem, h2, h6]
      · refine OgStep.calls ?_ ?_
        · rfl
        intro u W hS hp
        obtain ⟨b, h7, hPm⟩ : pF ps (u 7) W := hp ⟨7, .data⟩ (by simp) rfl
        refine ⟨73, #[.slice (some ⟨b, 0, none⟩) 2 2], ?_, HCC.out W (HB1.out.trans (hS.mono HB1.out.size)) b hPm⟩
        simp only [ogMk, Act.put, List.setIfInBounds_toArray, List.set_cons_zero, List.set_cons_succ, Nat.zero_add, Nat.reduceAdd]
        rw [h7, HPL.out]
        simp [execOp, Act.eval, go_sem]
      · refine OgStep.pure ?_ ?_
        · rfl
        intro u W hS hp
        have h8 : oF w.heap.size ys (u 8) W := hp ⟨8, .data⟩ (by simp) rfl
        refine ⟨u 8, ?_, h8⟩
        simp only [ogMk, Act.put, List.setIfInBounds_toArray, List.set_cons_zero, List.set_cons_succ, Nat.zero_add, Nat.reduceAdd]
        simp [execOp, Act.eval, go_sem]
      · refine OgStep.pure ?_ ?_
        · rfl
        intro u W hS hp
        refine ⟨.int .i64 0, ?_, rfl⟩
        simp only [ogMk, Act.put, List.setIfInBounds_toArray, List.set_cons_zero, List.set_cons_succ, Nat.zero_add, Nat.reduceAdd]
        simp [execOp, Act.eval, go_sem]
    · intro u W hS hF'
      have hF9 : oF w.heap.size ys (u 9) W := hF' 9 (by decide)
      have hF := hF'
      have e0 : u 0 = .slice (some y) L cap := hF 0 (by decide)
      have e1 : u 1 = .int .i64 (P : Int) := hF 1 (by decide)
      have e2 : u 2 = .slice (some y) P cap := hF 2 (by decide)
      have e3 : u 3 = .slice (some y) L cap := hF 3 (by decide)
      have e4 : u 4 = .int .i64 (P : Int) := hF 4 (by decide)
      have e5 : u 5 = .int .i64 ((P + 1 : Nat) : Int) := hF 5 (by decide)
      have e6 : u 6 = .slice (dA (some y) cap (P + 1)) (L - (P + 1)) (cap - (P + 1)) := hF 6 (by decide)
      have e10 : u 10 = .int .i64 0 := hF 10 (by decide)
      simp only [ogMk, Act.put, List.setIfInBounds_toArray, List.set_cons_zero, List.set_cons_succ, Nat.zero_add, Nat.reduceAdd]
      rw [e0, e1, e2, e3, e4, e5, e6, e10]
      clear hF' e0 e1 e2 e3 e4 e5 e6 e10 hF
      go_wp2_with fail
      go_ret2
      exact out_yes (hF9 : W.ownsRow w.heap.size 44 8 (u 9) ys.length (hcs ys)) HOK.out HYL.out (HB1.out.trans (hS.mono HB1.out.size))
def pG (ps : Nat → List Pt) : Value → World → Prop := fun v W => ∃ g, pF (ps g) v W
theorem stable_pG (ps : Nat → List Pt) : Stable (pG ps) := fun _ _ _ ⟨g, h⟩ hb => ⟨g, stable_pF _ _ _ _ h hb⟩
theorem hs_c8 {W : World} {b : Nat} {x : Hr} (h : Hs W (some ⟨b, 0, none⟩) [x]) : W.cell? ⟨b, 0, none⟩ = some (.int .u32 x.a) ∧ W.cell? ⟨b, 1, none⟩ = some (.string x.T) ∧ W.cell? ⟨b, 2, none⟩ = some (.int .u8 x.m0) ∧ W.cell? ⟨b, 3, none⟩ = some (.int .u8 x.m1) ∧ W.cell? ⟨b, 4, none⟩ = some (.int .u8 x.m2) ∧ W.cell? ⟨b, 5, none⟩ = some (.int .u8 x.m3) ∧ W.cell? ⟨b, 6, none⟩ = some (.int .u8 x.m4) ∧ W.cell? ⟨b, 7, none⟩ = some (.int .u8 x.m5) := by
  have H : ∀ j v, (hl x)[j]? = some v → W.cell? ⟨b, j, none⟩ = some v := fun j v hv => by
    have := h.at (q := 0) (x := x) rfl j v hv
    rw [show ((⟨b, 0, none⟩ : Addr).add (0 * 8)).add j = ⟨b, j, none⟩ by rw [show (0 * 8 : Nat) = 0 from rfl, show (⟨b, 0, none⟩ : Addr).add 0 = ⟨b, 0, none⟩ from rfl, Addr.add_mid, Nat.zero_add]] at this
    exact this
  exact ⟨H 0 _ rfl, H 1 _ rfl, H 2 _ rfl, H 3 _ rfl, H 4 _ rfl, H 5 _ rfl, H 6 _ rfl, H 7 _ rfl⟩
set_option maxRecDepth 100000 in
set_option maxHeartbeats 4000000 in
theorem put_any (hh : Hr) (A : Option Addr) (xs : List Hr) (cap : Nat) (w : World) (hho : hh.ok) (h : Hs w A xs) (hc : xs.length ≤ cap) (hx9 : xs.length ≤ 900) :
    Calls Tryz.prog 30 #[.slice A xs.length cap, hv hh] w (OutPost w (putR xs hh) (putC xs hh)) := by
  have ha0 := hho.1
  have ha1 := hho.2.1
  have hle := lo_le hh.a xs
  have hln := h.1
  have R := Lib.hid h
  have HHO := Lib.hid hho
  have HP := Lib.hid (place_any hh.a A xs cap (w.alloc (Hx hh)) (h.below ((Below.refl _ w).alloc (Nat.le_refl _) _)) ha0 ha1)
  have HM := Lib.hid (may_any hh.T (w.alloc (Hx hh)) hho.2.2)
  have HBX0 := Lib.hid (hs_box w hh hho)
  have HBB0 := Lib.hid (show Below w.heap.size w (w.alloc (Hx hh)) from (Below.refl _ w).alloc (Nat.le_refl _) _)
  cases hY : mayB hh.T
  · have HT := Lib.hid (show putR xs hh = [] ∧ putC xs hh = 12 by simp [putR, putC, hY])
    rw [hY] at HM
    rw [HT.out.1, HT.out.2]
    clear hY h HT HP
    generalize xs.length = L at *
    obtain ⟨ha, hT, x0, x1, x2, x3, x4, x5⟩ := hh
    simp only [hv, Hx] at HM HBB0 ⊢
    go_enter Tryz.func30, Tryz.ntmps30
    go_wp2_with fail
    refine HM.out.mono ?_
    rintro e w1 ⟨rfl, rfl⟩
    go_wp2_with fail
    go_ret2
    exact out_no w _ 12 HBB0.out
  · rw [hY] at HM
    cases hB : isAt xs hh.a
    · rw [hB] at HP
      by_cases h48 : 48 ≤ xs.length
      · have HT := Lib.hid (show putR xs hh = [] ∧ putC xs hh = 4 by simp [putR, putC, hY, hB, h48])
        rw [HT.out.1, HT.out.2]
        clear hY hB h HT
        generalize xs.length = L at *
        generalize lo xs hh.a = P at *
        obtain ⟨ha, hT, x0, x1, x2, x3, x4, x5⟩ := hh
        simp only [hv, Hx] at HM HBB0 HP ⊢
        have h48' : (48 : Int) ≤ L := by omega
        go_enter Tryz.func30, Tryz.ntmps30
        go_wp2_with fail
        refine HM.out.mono ?_
        rintro e w1 ⟨rfl, rfl⟩
        go_wp2_with fail
        refine HP.out.mono ?_
        rintro e w1 ⟨rfl, n1, rfl⟩
        have HB1 := Lib.hid (bdrewN HBB0.out n1)
        go_wp2_with fail
        go_ret2
        exact out_no w _ 4 HB1.out
      · have HT := Lib.hid (show putR xs hh = ins xs hh ∧ putC xs hh = 0 by
          have e : putC xs hh = 0 := by simp [putC, hY, hB]; omega
          exact ⟨by simp [putR, e], e⟩)
        rw [HT.out.1, HT.out.2]
        obtain ⟨ys, hys⟩ : ∃ ys, ins xs hh = ys := ⟨_, rfl⟩
        obtain ⟨ps, hps⟩ : ∃ ps : Nat → List Pt, ps = fun g => [⟨A, xs.take (lo xs hh.a), cap⟩, ⟨some ⟨g, 0, none⟩, [hh], 1⟩, ⟨dA A cap (lo xs hh.a), xs.drop (lo xs hh.a), cap - lo xs hh.a⟩] := ⟨_, rfl⟩
        have e1 : (xs.take (lo xs hh.a)).length = lo xs hh.a := by rw [List.length_take]; omega
        have e2 : (xs.drop (lo xs hh.a)).length = xs.length - lo xs hh.a := by rw [List.length_drop]
        have hcat : ∀ g, cat (ps g) (ps g).length = ys := fun g => by rw [← hys, hps]; simp [cat, ins]
        have hyl : ys.length ≤ 1000 := by rw [← hys]; unfold ins; rw [List.length_append, List.length_append, e1, e2, List.length_singleton]; omega
        have hok : ∀ z ∈ ys, z.ok := fun z hz => by
          rcases ins_sub (hys ▸ hz : z ∈ ins xs hh) with rfl | hz
          · exact hho
          · exact hs_oks h z hz
        have HPM := Lib.hid (show ∀ W, Below w.heap.size w W → ∀ g, Hs W (some ⟨g, 0, none⟩) [hh] → pG ps (.slice (some ⟨W.heap.size, 0, none⟩) 3 3) (W.alloc (.cells #[.slice A (lo xs hh.a) cap, .slice (some ⟨g, 0, none⟩) 1 1, .slice (dA A cap (lo xs hh.a)) (xs.length - lo xs hh.a) (cap - lo xs hh.a)] 29)) from fun W hW g hg => by
          subst hps
          have hH := h.below hW
          have := pm_three W ⟨A, xs.take (lo xs hh.a), cap⟩ ⟨some ⟨g, 0, none⟩, [hh], 1⟩ ⟨dA A cap (lo xs hh.a), xs.drop (lo xs hh.a), cap - lo xs hh.a⟩ 29 (hH.take _) hg (hH.rest hc _)
          dsimp only at this
          rw [e1, e2] at this
          exact ⟨g, _, rfl, this⟩)
        have HCC := Lib.hid (show ∀ W, Below w.heap.size w W → ∀ g b, Pm W b (ps g) → Calls Tryz.prog 73 #[.slice (some ⟨b, 0, none⟩) 3 3] W fun e w' => ∃ v, e = .returned v ∧ Below W.heap.size W w' ∧ oF w.heap.size ys v w' from fun W hW g b hb => by
          have := concat_any (ps g) b 3 W hb (by rw [hcat]; exact hyl) (by rw [hps]; simp)
          rw [hcat, show (ps g).length = 3 by rw [hps]; rfl] at this
          refine this.mono ?_
          rintro e w' ⟨v, he, ho, hbb⟩
          exact ⟨v, he, hbb, own_base ho hW.size⟩)
        have HSH := Lib.hid (fun W => sl_h A xs.length cap (lo xs hh.a) (by omega) W)
        have HSL := Lib.hid (fun W => sl_l A xs.length cap (lo xs hh.a) hle hc W)
        have HPL := Lib.hid (show ∀ g, (ps g).length = 3 by intro g; rw [hps]; rfl)
        have HOK := Lib.hid hok
        have HYL := Lib.hid hyl
        rw [hys]
        clear hps hcat hys hok hyl e1 e2 h HT hB hY
        generalize xs.length = L at *
        generalize lo xs hh.a = P at *
        obtain ⟨ha, hT, x0, x1, x2, x3, x4, x5⟩ := hh
        simp only [hv, Hx] at HM HBB0 HP HBX0 ⊢
        have h48' : ¬ (48 : Int) ≤ L := by omega
        go_enter Tryz.func30, Tryz.ntmps30
        go_wp2_with fail
        refine HM.out.mono ?_
        rintro e w1 ⟨rfl, rfl⟩
        go_wp2_with fail
        refine HP.out.mono ?_
        rintro e w1 ⟨rfl, n1, hw1⟩
        have HB1 := Lib.hid (show Below w.heap.size w w1 from hw1 ▸ bdrewN HBB0.out n1)
        have HBX := Lib.hid (show Hs w1 (some ⟨w.heap.size, 0, none⟩) [⟨ha, hT, x0, x1, x2, x3, x4, x5⟩] from hw1 ▸ HBX0.out.drewN n1)
        clear hw1 HBX0 HM HP
        go_wp2_with fail
        refine wp_region_below [fx (.slice A L cap), fx (.int .i64 (P : Int)), fx (.slice A P cap), fx (.agg #[.int .u32 ha, .string hT, .int .u8 x0, .int .u8 x1, .int .u8 x2, .int .u8 x3, .int .u8 x4, .int .u8 x5]), hF ⟨ha, hT, x0, x1, x2, x3, x4, x5⟩, fx (.slice A L cap), fx (.int .i64 (P : Int)), fx (.slice (dA A cap P) (L - P) (cap - P)), pG ps, oF w.heap.size ys, oF w.heap.size ys, fx (.int .i64 0)]
          (by kernel_rfl) (by kernel_rfl) (by kernel_rfl) ?_ ?_ ?_
        · simp only [List.mem_cons, List.not_mem_nil, or_false]
          rintro φ (rfl | rfl | rfl | rfl | rfl | rfl | rfl | rfl | rfl | rfl | rfl | rfl)
          all_goals first | exact stable_fx _ | exact stable_fr _ _ | exact stable_pG _ | exact stable_oF _ _ | exact stable_hF _
        · refine OgSteps.cons ?_ (OgSteps.cons ?_ (OgSteps.cons ?_ (OgSteps.cons ?_ (OgSteps.cons ?_ (OgSteps.cons ?_ (OgSteps.cons ?_ (OgSteps.cons ?_ (OgSteps.cons ?_ (OgSteps.cons ?_ (OgSteps.cons ?_ (OgSteps.cons ?_ (OgSteps.nil))))))))))))
          · refine OgStep.pure ?_ ?_
            · rfl
            intro u W hS hp
            refine ⟨.slice A L cap, ?_, rfl⟩
            simp only [ogMk, Act.put, List.setIfInBounds_toArray, List.set_cons_zero, List.set_cons_succ, Nat.zero_add, Nat.reduceAdd]
            simp [execOp, Act.eval, go_sem]
          · refine OgStep.pure ?_ ?_
            · rfl
            intro u W hS hp
            refine ⟨.int .i64 (P : Int), ?_, rfl⟩
            simp only [ogMk, Act.put, List.setIfInBounds_toArray, List.set_cons_zero, List.set_cons_succ, Nat.zero_add, Nat.reduceAdd]
            simp [execOp, Act.eval, go_sem]
          · refine OgStep.pure ?_ ?_
            · rfl
            intro u W hS hp
            have h0 : u 0 = .slice A L cap := hp ⟨0, .data⟩ (by simp) rfl
            have h1 : u 1 = .int .i64 (P : Int) := hp ⟨1, .data⟩ (by simp) rfl
            have R := HSH.out W
            refine ⟨.slice A P cap, ?_, rfl⟩
            simp only [ogMk, Act.put, List.setIfInBounds_toArray, List.set_cons_zero, List.set_cons_succ, Nat.zero_add, Nat.reduceAdd]
            simp [execOp, Act.eval, go_sem, h0, h1, R]
          · refine OgStep.pure ?_ ?_
            · rfl
            intro u W hS hp
            obtain ⟨R0, R1, R2, R3, R4, R5, R6, R7⟩ := hs_c8 (HBX.out.below hS)
            refine ⟨.agg #[.int .u32 ha, .string hT, .int .u8 x0, .int .u8 x1, .int .u8 x2, .int .u8 x3, .int .u8 x4, .int .u8 x5], ?_, rfl⟩
            simp only [ogMk, Act.put, List.setIfInBounds_toArray, List.set_cons_zero, List.set_cons_succ, Nat.zero_add, Nat.reduceAdd]
            simp [execOp, Act.eval, go_sem, R0, R1, R2, R3, R4, R5, R6, R7]
          · refine OgStep.made ?_ ?_
            · rfl
            intro u W hS hp
            have h3 : u 3 = .agg #[.int .u32 ha, .string hT, .int .u8 x0, .int .u8 x1, .int .u8 x2, .int .u8 x3, .int .u8 x4, .int .u8 x5] := hp ⟨3, .data⟩ (by simp) rfl
            refine ⟨.slice (some ⟨W.heap.size, 0, none⟩) 1 1, _, ?_, (Below.refl _ W).alloc (Nat.le_refl _) _, ⟨_, rfl, hs_box W ⟨ha, hT, x0, x1, x2, x3, x4, x5⟩ HHO.out⟩⟩
            simp only [ogMk, Act.put, List.setIfInBounds_toArray, List.set_cons_zero, List.set_cons_succ, Nat.zero_add, Nat.reduceAdd]
            simp [execOp, Act.eval, go_sem, h3, Hx]
          · refine OgStep.pure ?_ ?_
            · rfl
            intro u W hS hp
            refine ⟨.slice A L cap, ?_, rfl⟩
            simp only [ogMk, Act.put, List.setIfInBounds_toArray, List.set_cons_zero, List.set_cons_succ, Nat.zero_add, Nat.reduceAdd]
            simp [execOp, Act.eval, go_sem]
          · refine OgStep.pure ?_ ?_
            · rfl
            intro u W hS hp
            refine ⟨.int .i64 (P : Int), ?_, rfl⟩
            simp only [ogMk, Act.put, List.setIfInBounds_toArray, List.set_cons_zero, List.set_cons_succ, Nat.zero_add, Nat.reduceAdd]
            simp [execOp, Act.eval, go_sem]
          · refine OgStep.pure ?_ ?_
            · rfl
            intro u W hS hp
            have h5 : u 5 = .slice A L cap := hp ⟨5, .data⟩ (by simp) rfl
            have h6 : u 6 = .int .i64 (P : Int) := hp ⟨6, .data⟩ (by simp) rfl
            have R := HSL.out W
            refine ⟨.slice (dA A cap P) (L - P) (cap - P), ?_, rfl⟩
            simp only [ogMk, Act.put, List.setIfInBounds_toArray, List.set_cons_zero, List.set_cons_succ, Nat.zero_add, Nat.reduceAdd]
            simp [execOp, Act.eval, go_sem, h5, h6, R]
          · refine OgStep.made ?_ ?_
            · rfl
            intro u W hS hp
            obtain ⟨b4, h4, hH4⟩ : hF ⟨ha, hT, x0, x1, x2, x3, x4, x5⟩ (u 4) W := hp ⟨4, .data⟩ (by simp) rfl
            have h2 : u 2 = .slice A P cap := hp ⟨2, .data⟩ (by simp) rfl
            have h7 : u 7 = .slice (dA A cap P) (L - P) (cap - P) := hp ⟨7, .data⟩ (by simp) rfl
            refine ⟨.slice (some ⟨W.heap.size, 0, none⟩) 3 3, _, ?_, (Below.refl _ W).alloc (Nat.le_refl _) _, HPM.out W (HB1.out.trans (hS.mono HB1.out.size)) b4 hH4⟩
            simp only [ogMk, Act.put, List.setIfInBounds_toArray, List.set_cons_zero, List.set_cons_succ, Nat.zero_add, Nat.reduceAdd]
            rw [h2, h4, h7]
            simp [execOp, Act.eval, go_sem]
          · refine OgStep.calls ?_ ?_
            · rfl
            intro u W hS hp
            obtain ⟨b4, b, h8, hPm⟩ : pG ps (u 8) W := hp ⟨8, .data⟩ (by simp) rfl
            refine ⟨73, #[.slice (some ⟨b, 0, none⟩) 3 3], ?_, HCC.out W (HB1.out.trans (hS.mono HB1.out.size)) b4 b hPm⟩
            simp only [ogMk, Act.put, List.setIfInBounds_toArray, List.set_cons_zero, List.set_cons_succ, Nat.zero_add, Nat.reduceAdd]
            rw [h8, HPL.out b4]
            simp [execOp, Act.eval, go_sem]
          · refine OgStep.pure ?_ ?_
            · rfl
            intro u W hS hp
            have h9 : oF w.heap.size ys (u 9) W := hp ⟨9, .data⟩ (by simp) rfl
            refine ⟨u 9, ?_, h9⟩
            simp only [ogMk, Act.put, List.setIfInBounds_toArray, List.set_cons_zero, List.set_cons_succ, Nat.zero_add, Nat.reduceAdd]
            simp [execOp, Act.eval, go_sem]
          · refine OgStep.pure ?_ ?_
            · rfl
            intro u W hS hp
            refine ⟨.int .i64 0, ?_, rfl⟩
            simp only [ogMk, Act.put, List.setIfInBounds_toArray, List.set_cons_zero, List.set_cons_succ, Nat.zero_add, Nat.reduceAdd]
            simp [execOp, Act.eval, go_sem]
        · intro u W hS hF'
          have hF10 : oF w.heap.size ys (u 10) W := hF' 10 (by decide)
          have hF := hF'
          have e0 : u 0 = .slice A L cap := hF 0 (by decide)
          have e1 : u 1 = .int .i64 (P : Int) := hF 1 (by decide)
          have e2 : u 2 = .slice A P cap := hF 2 (by decide)
          have e3 : u 3 = .agg #[.int .u32 ha, .string hT, .int .u8 x0, .int .u8 x1, .int .u8 x2, .int .u8 x3, .int .u8 x4, .int .u8 x5] := hF 3 (by decide)
          have e5 : u 5 = .slice A L cap := hF 5 (by decide)
          have e6 : u 6 = .int .i64 (P : Int) := hF 6 (by decide)
          have e7 : u 7 = .slice (dA A cap P) (L - P) (cap - P) := hF 7 (by decide)
          have e11 : u 11 = .int .i64 0 := hF 11 (by decide)
          simp only [ogMk, Act.put, List.setIfInBounds_toArray, List.set_cons_zero, List.set_cons_succ, Nat.zero_add, Nat.reduceAdd]
          rw [e0, e1, e2, e3, e5, e6, e7, e11]
          clear hF' e0 e1 e2 e3 e5 e6 e7 e11 hF
          go_wp2_with fail
          go_ret2
          exact out_yes (hF10 : W.ownsRow w.heap.size 44 8 (u 10) ys.length (hcs ys)) HOK.out HYL.out (HB1.out.trans (hS.mono HB1.out.size))
    · rw [hB] at HP
      have HT := Lib.hid (show putR xs hh = [] ∧ putC xs hh = 6 by simp [putR, putC, hY, hB])
      rw [HT.out.1, HT.out.2]
      clear hY hB h HT
      generalize xs.length = L at *
      generalize lo xs hh.a = P at *
      obtain ⟨ha, hT, x0, x1, x2, x3, x4, x5⟩ := hh
      simp only [hv, Hx] at HM HBB0 HP ⊢
      go_enter Tryz.func30, Tryz.ntmps30
      go_wp2_with fail
      refine HM.out.mono ?_
      rintro e w1 ⟨rfl, rfl⟩
      go_wp2_with fail
      refine HP.out.mono ?_
      rintro e w1 ⟨rfl, n1, rfl⟩
      have HB1 := Lib.hid (bdrewN HBB0.out n1)
      go_wp2_with fail
      go_ret2
      exact out_no w _ 6 HB1.out
end Go.Proofs.YtilneflfeegnfaaGreat.Hl
namespace Go.Proofs.YtilneflfeegnfaaGreat.Hl
open Go.RowKit
def rOk (xs : List Hr) (i : Nat) : Bool := match xs[i]? with
  | some x => mayB x.T && (i == 0 || (match xs[i - 1]? with
    | some y => decide (y.a < x.a)
    | none => false))
  | none => true
def rPre (xs : List Hr) (k : Nat) : Bool := (List.range k).all (rOk xs)
def rightB (xs : List Hr) : Bool := decide (xs.length ≤ 48) && rPre xs xs.length
theorem rPre_zero (xs : List Hr) : rPre xs 0 = true := rfl
theorem rPre_succ (xs : List Hr) (k : Nat) : rPre xs (k + 1) = (rPre xs k && rOk xs k) := by
  unfold rPre
  rw [List.range_succ, List.all_append]
  simp
theorem rPre_false (xs : List Hr) (k n : Nat) (h : rPre xs k = false) (hk : k ≤ n) : rPre xs n = false := by
  induction hk with
  | refl => exact h
  | step h1 ih => rw [rPre_succ, ih]; rfl
set_option maxRecDepth 100000 in
set_option maxHeartbeats 4000000 in
theorem right15_any (A : Option Addr) (xs : List Hr) (cap : Nat) (w : World) (h : Hs w A xs) (hc : xs.length ≤ cap) :
    Calls Tryz.prog 38 #[.slice A xs.length cap] w fun e w' => e = .returned (.bool (rightB xs)) ∧ Below w.heap.size w w' := by
  have hln := h.1
  have R := Lib.hid h
  by_cases h48 : 48 < xs.length
  · have HF := Lib.hid (show rightB xs = false by simp [rightB]; omega)
    have h48' : (48 : Int) < xs.length := by omega
    clear h
    generalize xs.length = L at *
    go_enter Tryz.func38, Tryz.ntmps38
    go_wp2_with fail
    go_ret
    exact ⟨by rw [HF.out]; rfl, Below.refl _ _⟩
  · have HF := Lib.hid (show rightB xs = rPre xs xs.length by simp [rightB]; omega)
    have h48' : ¬ (48 : Int) < xs.length := by omega
    clear h
    obtain ⟨L, hL⟩ : ∃ L, xs.length = L := ⟨_, rfl⟩
    have HL := Lib.hid hL
    rw [hL] at hc hln h48 h48' HF ⊢
    clear hL
    go_enter Tryz.func38, Tryz.ntmps38
    go_wp2_with fail
    go_loopw [10] (fun i wr => ∃ k : Nat, i = .int .i64 k ∧ k ≤ L ∧ Hid (rPre xs k = true ∧ Below w.heap.size w wr)) (fun i _ => L - (intOf i).toNat)
    case atStart => exact ⟨0, rfl, by omega, Lib.hid ⟨rPre_zero _, Below.refl _ _⟩⟩
    case round =>
      obtain ⟨k, rfl, hk, HH⟩ := hrel
      by_cases hlt : k < L
      · obtain ⟨x, hx⟩ : ∃ x, xs[k]? = some x := ⟨_, List.getElem?_eq_getElem (by rw [HL.out]; exact hlt)⟩
        obtain ⟨y, rfl⟩ := hs_some R.out (by rw [HL.out]; omega)
        have R1 := Lib.hid (R.out.below HH.out.2)
        have hok := R.out.ok hx
        have hat := R1.out.at hx
        have HS := Lib.hid (rPre_succ xs k)
        have HN := Lib.hid (rPre_false xs (k + 1) L)
        have HM := Lib.hid fun W => may_any x.T W hok.2.2
        have X0 : 0 ≤ x.a := hok.1
        have X1 : x.a < 4294967296 := hok.2.1
        cases hY : mayB x.T
        · rw [hY] at HM
          have HO := Lib.hid (show rOk xs k = false by simp [rOk, hx, hY])
          obtain ⟨xa, xT, x0, x1, x2, x3, x4, x5⟩ := x
          clear hx hok hY
          go_wp2_with (refine at_load33 _ rfl rfl _ _ rfl hat ?_)
          go_quiet ((go_at_call 72; exact Calls.quiet_of_same (HM.out _)))
          go_wp2_with fail
          go_ret
          exact ⟨ret_bool (by rw [HF.out, HN.out (by rw [HS.out, HO.out]; simp) (by omega)]), bdrewN (HH.out.2.alloc HH.out.2.size _) _⟩
        · rw [hY] at HM
          rcases k with _ | j
          · have HO := Lib.hid (show rOk xs 0 = true by simp [rOk, hx, hY])
            obtain ⟨xa, xT, x0, x1, x2, x3, x4, x5⟩ := x
            clear hx hok hY
            go_wp2_with (refine at_load33 _ rfl rfl _ _ rfl hat ?_)
            go_quiet ((go_at_call 72; exact Calls.quiet_of_same (HM.out _)))
            go_wp2_with fail
            go_roundw
            case rel => exact ⟨1, by go_num, by omega, Lib.hid ⟨by rw [HS.out, HH.out.1, HO.out]; rfl, bdrewN (HH.out.2.alloc HH.out.2.size _) _⟩⟩
            case measure => simp [intOf]; omega
          · obtain ⟨z, hz⟩ : ∃ z, xs[j]? = some z := ⟨_, List.getElem?_eq_getElem (by rw [HL.out]; omega)⟩
            have c0 : wr.cell? (y.add (j * 8)) = some (.int .u32 z.a) := by
              have := R1.out.at hz 0 _ rfl
              rwa [Addr.add_add] at this
            have hO : rOk xs (j + 1) = decide (z.a < x.a) := by simp [rOk, hx, hY, hz]
            have hj : IntKind.i64.wrap (j : Int) = (j : Int) := i64_nat (by omega)
            have hjL : (j : Int) < L := by omega
            have hyb := World.block_lt_of_cell? _ _ c0
            have hyn : (y.add (j * 8)).block ≠ wr.heap.size := by omega
            by_cases hlt2 : z.a < x.a
            · have HO := Lib.hid (show rOk xs (j + 1) = true by rw [hO]; simpa using hlt2)
              have hle2 : ¬ x.a ≤ z.a := by omega
              obtain ⟨xa, xT, x0, x1, x2, x3, x4, x5⟩ := x
              clear hx hz hok hY hO
              go_wp2_with (refine at_load33 _ rfl rfl _ _ rfl hat ?_)
              go_quiet ((go_at_call 72; exact Calls.quiet_of_same (HM.out _)))
              go_wp2_with fail
              go_roundw
              case rel => exact ⟨j + 2, by go_num, by omega, Lib.hid ⟨by rw [HS.out, HH.out.1, HO.out]; rfl, bdrewN (HH.out.2.alloc HH.out.2.size _) _⟩⟩
              case measure => simp [intOf]; omega
            · have HO := Lib.hid (show rOk xs (j + 1) = false by rw [hO]; simpa using hlt2)
              have hle2 : x.a ≤ z.a := by omega
              obtain ⟨xa, xT, x0, x1, x2, x3, x4, x5⟩ := x
              clear hx hz hok hY hO
              go_wp2_with (refine at_load33 _ rfl rfl _ _ rfl hat ?_)
              go_quiet ((go_at_call 72; exact Calls.quiet_of_same (HM.out _)))
              go_wp2_with fail
              go_ret
              exact ⟨ret_bool (by rw [HF.out, HN.out (by rw [HS.out, HO.out]; simp) (by omega)]), bdrewN (HH.out.2.alloc HH.out.2.size _) _⟩
      · obtain rfl : k = L := by omega
        go_wp2_with fail
        go_ret
        exact ⟨ret_bool (by rw [HF.out, HH.out.1]), HH.out.2⟩
end Go.Proofs.YtilneflfeegnfaaGreat.Hl
namespace Go.Proofs.YtilneflfeegnfaaGreat.Hl
theorem ins_length (ys : List Hr) (h : Hr) : (ins ys h).length = ys.length + 1 := by
  unfold ins
  have := lo_le h.a ys
  rw [List.length_append, List.length_append, List.length_take, List.length_drop, List.length_singleton]
  omega
theorem put_zero {ys : List Hr} {h : Hr} (e : putC ys h = 0) : ys.length < 48 ∧ isAt ys h.a = false ∧ mayB h.T = true ∧ putR ys h = ins ys h := by
  have hr : putR ys h = ins ys h := by simp [putR, e]
  unfold putC at e
  split at e
  · cases e
  · rename_i h1
    split at e
    · cases e
    · rename_i h2
      split at e
      · cases e
      · rename_i h3
        exact ⟨by omega, by simpa using h2, by simpa using h1, hr⟩
open Go.RowKit
def Srt (ys : List Hr) : Prop := ys.Pairwise (fun x y => x.a < y.a)
theorem Srt.nil : Srt [] := List.Pairwise.nil
theorem Srt.lt {ys : List Hr} (h : Srt ys) {i j : Nat} {x y : Hr} (hij : i < j) (hx : ys[i]? = some x) (hy : ys[j]? = some y) : x.a < y.a := by
  obtain ⟨h1, rfl⟩ := List.getElem?_eq_some_iff.1 hx
  obtain ⟨h2, rfl⟩ := List.getElem?_eq_some_iff.1 hy
  exact List.pairwise_iff_getElem.1 h i j h1 h2 hij
theorem Srt.at {ys : List Hr} (h : Srt ys) {x : Hr} (hx : x ∈ ys) : ys[lo ys x.a]? = some x := by
  obtain ⟨q, hq, rfl⟩ := List.mem_iff_getElem.1 hx
  have hx' := List.getElem?_eq_getElem hq
  have hge : ¬ q < lo ys ys[q].a := fun hlt => by
    have := lo_lt _ ys q _ hlt hx'
    omega
  have hle := lo_le ys[q].a ys
  rcases Nat.lt_or_ge (lo ys ys[q].a) q with hlt | hge2
  · exfalso
    have hlL : lo ys ys[q].a < ys.length := by omega
    obtain ⟨z, hz⟩ : ∃ z, ys[lo ys ys[q].a]? = some z := ⟨ys[lo ys ys[q].a], List.getElem?_eq_getElem hlL⟩
    have h1 := h.lt hlt hz hx'
    exact lo_ge _ ys z hz h1
  · have : lo ys ys[q].a = q := by omega
    rw [this]
    exact hx'
theorem Srt.mem {ys : List Hr} (h : Srt ys) {x : Hr} (hx : x ∈ ys) : isAt ys x.a = true ∧ gt ys x.a = x := by
  have e := h.at hx
  have hi : isAt ys x.a = true := by unfold isAt; rw [e]; simp
  exact ⟨hi, by unfold gt; rw [if_pos hi, e]; rfl⟩
theorem isAt_mem {ys : List Hr} {a : Int} (h : isAt ys a = true) : gt ys a ∈ ys ∧ (gt ys a).a = a := by
  obtain ⟨x, hx, hxa, _⟩ := isAt_some h
  have : gt ys a = x := by unfold gt; rw [if_pos h, hx]; rfl
  rw [this]
  exact ⟨List.mem_of_getElem? hx, hxa⟩
theorem isAt_none {ys : List Hr} {a : Int} (h : isAt ys a = false) : gt ys a = zh := by
  unfold gt
  rw [if_neg (by rw [h]; simp)]
theorem Srt.not {ys : List Hr} (h : Srt ys) {a : Int} (hi : isAt ys a = false) : ∀ x ∈ ys, x.a ≠ a := by
  rintro x hx rfl
  rw [(h.mem hx).1] at hi
  cases hi
theorem take_lo {ys : List Hr} (a : Int) : ∀ x ∈ ys.take (lo ys a), x.a < a := by
  intro x hx
  obtain ⟨q, hq, rfl⟩ := List.mem_iff_getElem.1 hx
  rw [List.length_take] at hq
  rw [List.getElem_take]
  exact lo_lt a ys q _ (by omega) (List.getElem?_eq_getElem (by omega))
theorem Srt.drop_lo {ys : List Hr} (h : Srt ys) (a : Int) : ∀ x ∈ ys.drop (lo ys a), a ≤ x.a := by
  intro x hx
  obtain ⟨q, hq, rfl⟩ := List.mem_iff_getElem.1 hx
  rw [List.length_drop] at hq
  rw [List.getElem_drop]
  obtain ⟨z, hz⟩ : ∃ z, ys[lo ys a]? = some z := ⟨_, List.getElem?_eq_getElem (by omega)⟩
  have hz2 := lo_ge a ys z hz
  rcases Nat.eq_zero_or_pos q with rfl | hp
  · have := (List.getElem?_eq_some_iff.1 hz).2
    simp only [Nat.add_zero]
    rw [this]; omega
  · have := h.lt (show lo ys a < lo ys a + q by omega) hz (List.getElem?_eq_getElem (by omega))
    omega
theorem Srt.ins {ys : List Hr} {g : Hr} (h : Srt ys) (hi : isAt ys g.a = false) : Srt (ins ys g) := by
  unfold YtilneflfeegnfaaGreat.Hl.ins Srt
  rw [List.append_assoc, List.pairwise_append]
  refine ⟨h.sublist (List.take_sublist _ _), ?_, ?_⟩
  · rw [List.singleton_append, List.pairwise_cons]
    refine ⟨fun x hx => ?_, h.sublist (List.drop_sublist _ _)⟩
    have h1 := h.drop_lo g.a x hx
    have h2 := h.not hi x (List.mem_of_mem_drop hx)
    omega
  · intro x hx y hy
    have h1 := take_lo g.a x hx
    rcases List.mem_append.1 hy with hy | hy
    · have : y = g := by simpa using hy
      rw [this]; exact h1
    · have := h.drop_lo g.a y hy
      omega
theorem Srt.del {ys : List Hr} (h : Srt ys) (a : Int) : Srt (del ys a) := by
  unfold YtilneflfeegnfaaGreat.Hl.del
  refine List.Pairwise.sublist ?_ h
  conv => rhs; rw [← List.take_append_drop (lo ys a) ys]
  refine List.Sublist.append (List.Sublist.refl _) ?_
  rw [← List.drop_drop]
  exact List.drop_sublist _ _
theorem mem_ins {ys : List Hr} {g x : Hr} : x ∈ ins ys g ↔ x = g ∨ x ∈ ys := by
  refine ⟨ins_sub, ?_⟩
  unfold YtilneflfeegnfaaGreat.Hl.ins
  rintro (rfl | hx)
  · simp
  · have : x ∈ ys.take (lo ys g.a) ++ ys.drop (lo ys g.a) := by rw [List.take_append_drop]; exact hx
    rcases List.mem_append.1 this with h | h
    · exact List.mem_append_left _ (List.mem_append_left _ h)
    · exact List.mem_append_right _ h
theorem Srt.mem_del {ys : List Hr} (h : Srt ys) {a : Int} (hi : isAt ys a = true) {x : Hr} : x ∈ YtilneflfeegnfaaGreat.Hl.del ys a ↔ x ∈ ys ∧ x.a ≠ a := by
  obtain ⟨z, hz, hza, hlt⟩ := isAt_some hi
  constructor
  · intro hx
    refine ⟨del_sub hx, ?_⟩
    unfold YtilneflfeegnfaaGreat.Hl.del at hx
    rcases List.mem_append.1 hx with hx | hx
    · have := take_lo a x hx; omega
    · obtain ⟨q, hq, rfl⟩ := List.mem_iff_getElem.1 hx
      rw [List.length_drop] at hq
      rw [List.getElem_drop]
      have := h.lt (show lo ys a < lo ys a + 1 + q by omega) hz (List.getElem?_eq_getElem (by omega))
      omega
  · rintro ⟨hx, hne⟩
    unfold YtilneflfeegnfaaGreat.Hl.del
    have hx' : x ∈ ys.take (lo ys a) ++ ys.drop (lo ys a) := by rw [List.take_append_drop]; exact hx
    rcases List.mem_append.1 hx' with h1 | h1
    · exact List.mem_append_left _ h1
    · refine List.mem_append_right _ ?_
      rw [List.drop_eq_getElem_cons hlt] at h1
      rcases List.mem_cons.1 h1 with rfl | h1
      · exfalso
        have := (List.getElem?_eq_some_iff.1 hz).2
        rw [this] at hne
        exact hne hza
      · exact h1
theorem del_length {ys : List Hr} {a : Int} (hi : isAt ys a = true) : (del ys a).length + 1 = ys.length := by
  obtain ⟨_, _, _, hlt⟩ := isAt_some hi
  unfold del
  rw [List.length_append, List.length_take, List.length_drop]
  omega
theorem Srt.ins_at {ys : List Hr} {g : Hr} (h : Srt ys) (hi : isAt ys g.a = false) (a : Int) : isAt (YtilneflfeegnfaaGreat.Hl.ins ys g) a = (decide (a = g.a) || isAt ys a) ∧ gt (YtilneflfeegnfaaGreat.Hl.ins ys g) a = if a = g.a then g else gt ys a := by
  have hs := h.ins hi
  by_cases e : a = g.a
  · subst e
    have := hs.mem (mem_ins.2 (.inl rfl) : g ∈ YtilneflfeegnfaaGreat.Hl.ins ys g)
    exact ⟨by rw [this.1]; simp, by rw [this.2]; simp⟩
  · rw [if_neg e, decide_eq_false e, Bool.false_or]
    cases hb : isAt ys a
    · cases hc : isAt (YtilneflfeegnfaaGreat.Hl.ins ys g) a
      · exact ⟨rfl, by rw [isAt_none hb, isAt_none hc]⟩
      · exfalso
        obtain ⟨h1, h2⟩ := isAt_mem hc
        rcases mem_ins.1 h1 with h3 | h3
        · rw [h3] at h2; exact e h2.symm
        · exact h.not hb _ h3 h2
    · obtain ⟨h1, h2⟩ := isAt_mem hb
      have := hs.mem (mem_ins.2 (.inr h1) : gt ys a ∈ YtilneflfeegnfaaGreat.Hl.ins ys g)
      rw [h2] at this
      exact this
theorem Srt.del_at {ys : List Hr} {b : Int} (h : Srt ys) (hi : isAt ys b = true) (a : Int) : isAt (YtilneflfeegnfaaGreat.Hl.del ys b) a = (!decide (a = b) && isAt ys a) ∧ gt (YtilneflfeegnfaaGreat.Hl.del ys b) a = if a = b then zh else gt ys a := by
  have hs := h.del b
  by_cases e : a = b
  · subst e
    have hf : isAt (YtilneflfeegnfaaGreat.Hl.del ys a) a = false := by
      cases hc : isAt (YtilneflfeegnfaaGreat.Hl.del ys a) a
      · rfl
      · obtain ⟨h1, h2⟩ := isAt_mem hc
        exact absurd h2 ((h.mem_del hi).1 h1).2
    exact ⟨by rw [hf]; simp, by rw [isAt_none hf]; simp⟩
  · rw [if_neg e, decide_eq_false e, Bool.not_false, Bool.true_and]
    cases hb : isAt ys a
    · cases hc : isAt (YtilneflfeegnfaaGreat.Hl.del ys b) a
      · exact ⟨rfl, by rw [isAt_none hb, isAt_none hc]⟩
      · exfalso
        obtain ⟨h1, h2⟩ := isAt_mem hc
        exact h.not hb _ (del_sub h1) h2
    · obtain ⟨h1, h2⟩ := isAt_mem hb
      have := hs.mem ((h.mem_del hi).2 ⟨h1, by rw [h2]; exact e⟩)
      rw [h2] at this
      exact this
theorem Srt.right {ys : List Hr} (h : Srt ys) (hm : ∀ x ∈ ys, mayB x.T = true) (hn : ys.length ≤ 48) : rightB ys = true := by
  unfold rightB
  rw [decide_eq_true hn, Bool.true_and]
  unfold rPre
  rw [List.all_eq_true]
  intro i _
  unfold rOk
  split
  · rename_i x hx
    rw [hm x (List.mem_of_getElem? hx), Bool.true_and]
    rcases i with _ | j
    · rfl
    · obtain ⟨y, hy⟩ : ∃ y, ys[j]? = some y := ⟨_, List.getElem?_eq_getElem (by have := (List.getElem?_eq_some_iff.1 hx).1; omega)⟩
      simp only [Nat.add_sub_cancel, hy]
      rw [decide_eq_true (h.lt (Nat.lt_succ_self j) hy hx)]
      simp
  · rfl
end Go.Proofs.YtilneflfeegnfaaGreat.Hl
namespace Go.Proofs.YtilneflfeegnfaaGreat
open Go.RowKit
theorem bthen {B : Nat} {a b c : World} (h : Below B a b) (k : Below b.heap.size b c) (hB : B ≤ b.heap.size) : Below B a c := h.trans (k.mono hB)
structure Stt where
  now : Int
  seq : Int
  hs : List Hl.Hr
  sw : List Sw.Sw
  kn : List Sn.Kp
  pb : List Pb.Pr
  cs : List Cs.Ca
def zst : Stt := ⟨0, 0, [], [], [], [], []⟩
structure Rws where
  h : Option Addr
  hc : Nat
  s : Option Addr
  sc : Nat
  k : Option Addr
  kc : Nat
  p : Option Addr
  pc : Nat
  c : Option Addr
  cc : Nat
def zrw : Rws := ⟨none, 0, none, 0, none, 0, none, 0, none, 0⟩
def stl (x : Stt) (r : Rws) : List Value := [.int .i64 x.now, .int .i64 x.seq, .slice r.h x.hs.length r.hc, .slice r.s x.sw.length r.sc, .slice r.k x.kn.length r.kc, .slice r.p x.pb.length r.pc, .slice r.c x.cs.length r.cc]
def stv (x : Stt) (r : Rws) : Value := .agg #[.int .i64 x.now, .int .i64 x.seq, .slice r.h x.hs.length r.hc, .slice r.s x.sw.length r.sc, .slice r.k x.kn.length r.kc, .slice r.p x.pb.length r.pc, .slice r.c x.cs.length r.cc]
structure Lie (w : World) (x : Stt) (r : Rws) : Prop where
  h : Hl.Hs w r.h x.hs
  hc : x.hs.length ≤ r.hc
  s : Rw Sw.eW w r.s x.sw
  sc : x.sw.length ≤ r.sc
  k : Sn.Ks w r.k x.kn
  kc : x.kn.length ≤ r.kc
  p : Rw Pb.eP w r.p x.pb
  pc : x.pb.length ≤ r.pc
  c : Rw Cs.eA w r.c x.cs
  cc : x.cs.length ≤ r.cc
theorem Lie.below {w w' : World} {x : Stt} {r : Rws} (h : Lie w x r) (hb : Below w.heap.size w w') : Lie w' x r :=
  ⟨h.h.below hb, h.hc, h.s.below hb, h.sc, h.k.below hb, h.kc, h.p.below hb, h.pc, h.c.below hb, h.cc⟩
theorem lie_zero (w : World) : Lie w zst zrw := ⟨Hl.Hs.nil _ _, by simp [zst], Rw.nil _ _, by simp [zst], Sn.Ks.nil _ _, by simp [zst], Rw.nil _ _, by simp [zst], Rw.nil _ _, by simp [zst]⟩
structure Sz (x : Stt) : Prop where
  h : x.hs.length ≤ 900
  s : x.sw.length ≤ 16
  sv : ∀ y ∈ x.sw, Sw.Sv y
  k : Sn.Bd x.kn
  p : x.pb.length ≤ 900
  pn : ∀ y ∈ x.pb, 0 ≤ y.n ∧ y.n ≤ 1099511627776
  c : x.cs.length ≤ 900
def sgu (x : Sn.Sg) : Su.Sg := ⟨x.f, ⟨x.m0, x.m1, x.m2, x.m3, x.m4, x.m5⟩, x.t⟩
theorem rw_sgu {w : World} {A : Option Addr} {ss : List Sn.Sg} (h : Rw Sn.eS w A ss) : Rw Su.eS w A (ss.map sgu) := by
  refine ⟨by rw [List.length_map]; exact h.1, fun q x hx => ?_⟩
  rw [List.getElem?_map] at hx
  cases hy : ss[q]? with
  | none => rw [hy] at hx; cases hx
  | some y =>
    rw [hy] at hx
    injection hx with hx
    subst hx
    exact h.2 q y hy
def hmc (x : Hl.Hr) : Su.Mc := ⟨x.m0, x.m1, x.m2, x.m3, x.m4, x.m5⟩
def hoO (c : Cf) (x : Stt) (a : Int) : Int := Su.stO c (if Hl.isAt x.hs a then some (hmc (Hl.gt x.hs a)) else none) ((Sn.sg x.kn a).map sgu) x.now
end Go.Proofs.YtilneflfeegnfaaGreat
namespace Go.Proofs.YtilneflfeegnfaaGreat
open Go.RowKit
def Cx (w : World) (b : Nat) (L : List Value) : Prop := w.rangeAt b 0 L ∧ w.there b 0 L.length
theorem Cx.key {w : World} {b : Nat} {L : List Value} (h : Cx w b L) : ∀ j v, L[j]? = some v → w.cell? ⟨b, j, none⟩ = some v := fun j v hv => by
  have := h.1 j v hv
  rwa [Nat.zero_add] at this
theorem Cx.lt {w : World} {b : Nat} {u : Value} {L : List Value} (h : Cx w b (u :: L)) : b < w.heap.size := World.block_lt_of_cell? _ _ (h.key 0 _ rfl)
theorem Cx.fr {w : World} {b : Nat} {L : List Value} (h : Cx w b L) (j : Nat) (hj : j < L.length) : w.frozen? ⟨b, j, none⟩ = false := by
  have := (h.2 j hj).2
  rwa [Nat.zero_add] at this
theorem cx_box (w : World) (L : List Value) (cs : Array Value) (T : TypeId) (hc : cs.toList = L) : Cx (w.alloc (.cells cs T)) w.heap.size L := by
  subst hc
  have h : (w.alloc (.cells cs T)).heap[w.heap.size]? = some (.cells cs T) := heap_alloc_new w _
  have e : ∀ j, (w.alloc (.cells cs T)).cell? ⟨w.heap.size, j, none⟩ = _ := fun j => cell_of_row _ _ _ _ _ _ h
  refine ⟨fun j v hv => ?_, fun j hj => ⟨?_, ?_⟩⟩
  · rw [e, Nat.zero_add, ← hv]
    simp
  · rw [e, Nat.zero_add]
    simp at hj
    simp [hj]
  · unfold World.frozen?
    rw [h]
    simp
theorem Cx.keep {w w' : World} {b B : Nat} {L : List Value} (h : Cx w b L) (hb : Below B w w') (hB : b < B) : Cx w' b L :=
  ⟨fun j v hv => by rw [hb.cell (p := ⟨b, 0 + j, none⟩) hB]; exact h.1 j v hv, fun j hj => ⟨by rw [hb.cell (p := ⟨b, 0 + j, none⟩) hB]; exact (h.2 j hj).1, by rw [hb.frozen (p := ⟨b, 0 + j, none⟩) hB]; exact (h.2 j hj).2⟩⟩
theorem Cx.below {w w' : World} {b : Nat} {u : Value} {L : List Value} (h : Cx w b (u :: L)) (hb : Below w.heap.size w w') : Cx w' b (u :: L) := h.keep hb h.lt
theorem rangeAt_append {w : World} {b : Nat} : ∀ (p : List Value) {o : Nat} {q : List Value}, w.rangeAt b o (p ++ q) ↔ w.rangeAt b o p ∧ w.rangeAt b (o + p.length) q := by
  intro p o q
  constructor
  · intro h
    refine ⟨fun j v hv => h j v ?_, fun j v hv => ?_⟩
    · rw [List.getElem?_append_left (List.getElem?_eq_some_iff.1 hv).1]; exact hv
    · rw [Nat.add_assoc]
      refine h (p.length + j) v ?_
      rw [List.getElem?_append_right (by omega), Nat.add_sub_cancel_left]; exact hv
  · rintro ⟨h1, h2⟩ j v hv
    by_cases hj : j < p.length
    · rw [List.getElem?_append_left hj] at hv; exact h1 j v hv
    · rw [List.getElem?_append_right (by omega)] at hv
      have := h2 (j - p.length) v hv
      rwa [show o + p.length + (j - p.length) = o + j by omega] at this
theorem Cx.put {w : World} {b : Nat} {p old s : List Value} (vs : List Value) (h : Cx w b (p ++ (old ++ s))) (hl : vs.length = old.length) : Cx (w.setCells b p.length vs) b (p ++ (vs ++ s)) := by
  obtain ⟨h1, h2⟩ := h
  rw [rangeAt_append, rangeAt_append] at h1
  obtain ⟨h3, -, h5⟩ := h1
  rw [Nat.zero_add] at h5
  refine ⟨?_, ?_⟩
  · rw [rangeAt_append, rangeAt_append, Nat.zero_add]
    refine ⟨World.rangeAt_setCells_apart h3 b _ vs (.inr (.inl (by omega))), World.rangeAt_setCells_same w b _ vs fun j hj => ?_, ?_⟩
    · have := h2 (p.length + j) (by simp; omega)
      rwa [Nat.zero_add] at this
    · rw [hl]
      exact World.rangeAt_setCells_apart h5 b _ vs (.inr (.inr (by omega)))
  · have : (p ++ (vs ++ s)).length = (p ++ (old ++ s)).length := by simp [hl]
    rw [this]
    exact World.there_setCells h2 b _ vs
theorem Cx.sub {w : World} {b : Nat} {p q s : List Value} (h : Cx w b (p ++ (q ++ s))) : w.rangeAt b p.length q := by
  have h1 := h.1
  rw [rangeAt_append, rangeAt_append, Nat.zero_add] at h1
  exact h1.2.1
theorem cx_below {B b : Nat} {w0 : World} (hb : B ≤ b) : ∀ (vs : List Value) (o : Nat) (w : World), Below B w0 w → Below B w0 (w.setCells b o vs)
  | [], _, _, h => h
  | v :: r, o, w, h => cx_below hb r (o + 1) _ (h.setCell (by exact hb) v)
theorem setCells_other (b : Nat) : ∀ (us : List Value) (o : Nat) (w : World) (k : Nat), k ≠ b → (w.setCells b o us).heap[k]? = w.heap[k]?
  | [], _, _, _, _ => rfl
  | u :: r, o, w, k, h => (setCells_other b r (o + 1) _ k h).trans (heap_setCell_other w ⟨b, o, none⟩ k u h)
theorem cx_other {w w' : World} {b c : Nat} {L : List Value} (h : Cx w b L) (hk : ∀ k, k ≠ c → w'.heap[k]? = w.heap[k]?) (hne : b ≠ c) : Cx w' b L := by
  have e : ∀ j, w'.cell? ⟨b, j, none⟩ = w.cell? ⟨b, j, none⟩ := fun j => by unfold World.cell?; simp only [hk b hne]
  have f : ∀ j, w'.frozen? ⟨b, j, none⟩ = w.frozen? ⟨b, j, none⟩ := fun j => by unfold World.frozen?; simp only [hk b hne]
  exact ⟨fun j v hv => by rw [e]; exact h.1 j v hv, fun j hj => by rw [e, f]; exact h.2 j hj⟩
theorem at_put {ops : Array Oper} {rest : List Oper} {o : Oper} {a : Act} {w : World} {Q : Exit → Act → World → Prop} (T : TypeId) (x y : Operand) (b : Nat) (p old vs s : List Value) (H : Cx w b (p ++ (old ++ s))) (hl : vs.length = old.length)
    (hsz : (Tryz.prog.info? T).map (·.size) = some vs.toArray.size) (h1 : vs.toArray.all (·.oneCell') = true) (hgd : o.guard = none) (ho : o.op = .store T x y) (hx : a.eval x = .pointer (some ⟨b, p.length, none⟩)) (hy : a.eval y = .agg vs.toArray)
    (h : ∀ w', Hid (Cx w' b (p ++ (vs ++ s))) → Hid (∀ B, B ≤ b → Below B w w') → Hid (∀ k, k ≠ b → w'.heap[k]? = w.heap[k]?) → wpList Tryz.prog ops Q rest (a.put o.dst undef) w') : wpList Tryz.prog ops Q (o :: rest) a w :=
  wpList_store_mid hgd T x y ho b p.length vs.toArray hx hy (fun j hj => by have := H.2 (p.length + j) (by simp at hj ⊢; omega); rwa [Nat.zero_add] at this) hsz h1 (h _ (H.put vs hl) (fun _ hB => cx_below hB _ _ _ (Below.refl _ _)) (setCells_other b _ _ _))
theorem at_get {ops : Array Oper} {rest : List Oper} {o : Oper} {a : Act} {w : World} {Q : Exit → Act → World → Prop} (T : TypeId) (d : TypeDesc) (x : Operand) (b : Nat) (p q s : List Value) (H : Cx w b (p ++ (q ++ s)))
    (hd : Tryz.prog.underlying T = some d) (hr : d.isRow = true) (hsz : (Tryz.prog.info? T).map (·.size) = some q.length) (hgd : o.guard = none) (ho : o.op = .load T x) (hx : a.eval x = .pointer (some ⟨b, p.length, none⟩))
    (h : wpList Tryz.prog ops Q rest (a.put o.dst (.agg q.toArray)) w) : wpList Tryz.prog ops Q (o :: rest) a w :=
  wpList_load_mid hgd T x ho b p.length hx q d H.sub hd hr hsz h
theorem loadv {w : World} {b : Nat} {L : List Value} (T : TypeId) (d : TypeDesc) (h : Cx w b L) (hd : Tryz.prog.underlying T = some d) (hr : d.isRow = true) (hsz : (Tryz.prog.info? T).map (·.size) = some L.length) : (loadVar T ⟨b, 0, none⟩).run Tryz.prog w = .ok (.agg L.toArray) w :=
  run_loadVar_mid w b 0 T L d h.1 hd hr hsz
theorem results_cell3 {P : Program} {fn : Func} {p q r : Tmp} {ty : TypeId} (h : fn.results = #[.cell p ty, .tmp q, .tmp r]) (tmps : Array Value) (w : World) (x : Addr) (v u z : Value) (hp : tmps.getD p undef = .pointer (some x)) (hq : tmps.getD q undef = u) (hr : tmps.getD r undef = z) (hl : (loadVar ty x).run P w = .ok v w) :
    (results fn tmps).run P w = .ok (.tuple #[v, u, z]) w := by
  have hp' : tmps[p]?.getD undef = .pointer (some x) := by simpa using hp
  have hq' : tmps[q]?.getD undef = u := by simpa using hq
  have hr' : tmps[r]?.getD undef = z := by simpa using hr
  simp [results, h, hp', hq', hr', asAddr, hl, Sem.run_bind, Sem.run_pure, Result.andThen_ok]
def Stx (x : Stt) (r : Rws) : Obj := .cells #[.int .i64 x.now, .int .i64 x.seq, .slice r.h x.hs.length r.hc, .slice r.s x.sw.length r.sc, .slice r.k x.kn.length r.kc, .slice r.p x.pb.length r.pc, .slice r.c x.cs.length r.cc] 35
theorem st_box (w : World) (x : Stt) (r : Rws) : Cx (w.alloc (Stx x r)) w.heap.size (stl x r) := cx_box w _ _ _ rfl
theorem run_storeVar_sc (w : World) (b o : Nat) (ty : TypeId) (v : Value) (hv : v.cells = #[v]) (ht : w.there b o 1) (hi : (Tryz.prog.info? ty).map (·.size) = some 1) (h1 : v.oneCell' = true) :
    (storeVar ty ⟨b, o, none⟩ v).run Tryz.prog w = .ok () (w.setCells b o [v]) := by
  have := run_storeCells_cells (P := Tryz.prog) b o [v] 0 w (fun j hj => by simpa using (ht j (by simpa using hj)).1) (fun j hj => by simpa using (ht j (by simpa using hj)).2)
    (fun u hu => by simp at hu; rw [hu]; exact h1)
  cases hq : Tryz.prog.info? ty with
  | none => simp [hq] at hi
  | some i =>
    have hs : i.size = 1 := by simpa [hq] using hi
    simp only [Nat.add_zero] at this
    simp [storeVar, sizeOf, typeInfo, hq, hv, hs, this]
theorem at_put1 {ops : Array Oper} {rest : List Oper} {o : Oper} {a : Act} {w : World} {Q : Exit → Act → World → Prop} (T : TypeId) (x y : Operand) (b : Nat) (p : List Value) (u v : Value) (s : List Value) (H : Cx w b (p ++ (u :: s)))
    (hsz : (Tryz.prog.info? T).map (·.size) = some 1) (hv : v.cells = #[v]) (h1 : v.oneCell' = true) (hgd : o.guard = none) (ho : o.op = .store T x y) (hx : a.eval x = .pointer (some ⟨b, p.length, none⟩)) (hy : a.eval y = v)
    (h : ∀ w', Hid (Cx w' b (p ++ (v :: s))) → Hid (∀ B, B ≤ b → Below B w w') → Hid (∀ k, k ≠ b → w'.heap[k]? = w.heap[k]?) → wpList Tryz.prog ops Q rest (a.put o.dst undef) w') : wpList Tryz.prog ops Q (o :: rest) a w :=
  wpList_plain hgd fun _ hK => by
    unfold Oper.wp execOp
    simp only [ho, hx, hy, Instr.storeAt, Instr.sureAddr, Sem.run_bind, Sem.run_pure, Result.andThen_ok, run_storeVar_sc w b p.length T v hv (fun j hj => by have := H.2 (p.length + j) (by simp; omega); rwa [Nat.zero_add] at this) hsz h1]
    exact hK _ _ (h _ (Cx.put (old := [u]) [v] H rfl) (fun _ hB => cx_below hB _ _ _ (Below.refl _ _)) (setCells_other b _ _ _))
theorem sizeSt : (Tryz.prog.info? 35).map (·.size) = some 7 := by kernel_rfl
theorem sizeRh : (Tryz.prog.info? 29).map (·.size) = some 1 := by kernel_rfl
theorem sizeRs : (Tryz.prog.info? 30).map (·.size) = some 1 := by kernel_rfl
theorem sizeRk : (Tryz.prog.info? 31).map (·.size) = some 1 := by kernel_rfl
theorem sizeRp : (Tryz.prog.info? 32).map (·.size) = some 1 := by kernel_rfl
theorem sizeRc : (Tryz.prog.info? 33).map (·.size) = some 1 := by kernel_rfl
theorem at_loadSt {ops : Array Oper} {rest : List Oper} {o : Oper} {a : Act} {w : World} {Q : Exit → Act → World → Prop} (x : Operand) (b : Nat) (L : List Value) (H : Cx w b L) (hL : L.length = 7) (hgd : o.guard = none) (ho : o.op = .load 35 x) (hx : a.eval x = .pointer (some ⟨b, 0, none⟩))
    (h : wpList Tryz.prog ops Q rest (a.put o.dst (.agg L.toArray)) w) : wpList Tryz.prog ops Q (o :: rest) a w :=
  at_get 35 _ x b [] L [] (by simpa using H) Tryz.underlying35 rfl (by rw [sizeSt, hL]) hgd ho hx h
theorem loadvSt {w : World} {b : Nat} {L : List Value} (h : Cx w b L) (hL : L.length = 7) : (loadVar 35 ⟨b, 0, none⟩).run Tryz.prog w = .ok (.agg L.toArray) w := loadv _ _ h Tryz.underlying35 rfl (by rw [sizeSt, hL])
end Go.Proofs.YtilneflfeegnfaaGreat
namespace Go.Proofs.YtilneflfeegnfaaGreat
open Go.RowKit
def Ns (v : Value) : Prop := (∀ n, v ≠ .int .u32 n) ∧ ∀ n, v ≠ .int .u8 n
theorem ns_int (n : Int) : Ns (.int .i64 n) := ⟨fun m h => (by cases h), fun m h => (by cases h)⟩
theorem ns_sl (A : Option Addr) (n c : Nat) : Ns (.slice A n c) := ⟨fun m h => (by cases h), fun m h => (by cases h)⟩
def Bs (w : World) (b : Nat) : Prop := ∀ (a : Addr) (v : Value), a.block = b → w.cell? a = some v → Ns v
theorem cell_setCell_none {w : World} {a : Addr} (v : Value) (h : w.cell? a = none) : (w.setCell a v).cell? a = none := by
  unfold World.cell? at h ⊢
  simp only [World.setCell, Array.getElem?_modify, if_true]
  cases hb : w.heap[a.block]? with
  | none => simp
  | some o =>
    rw [hb] at h
    cases o with
    | cells c T fr =>
      simp only [Option.map_some] at h ⊢
      split at h
      · rename_i hs
        rw [if_pos hs]
      · rename_i hs
        rw [if_neg hs, if_neg hs]
        simp at h ⊢
        exact h
    | _ => simp
theorem Bs.set {w : World} {b : Nat} (h : Bs w b) (a : Addr) {v : Value} (hv : Ns v) : Bs (w.setCell a v) b := by
  intro x u hx hu
  by_cases e : a = x
  · subst e
    cases ho : w.cell? a with
    | some o =>
      rw [World.cell?_setCell_same _ _ _ ho] at hu
      injection hu with hu
      subst hu
      exact hv
    | none => rw [cell_setCell_none v ho] at hu; cases hu
  · rw [World.cell?_setCell_other _ _ _ _ e] at hu
    exact h x u hx hu
theorem Bs.sets {b : Nat} (c : Nat) : ∀ (vs : List Value) (o : Nat) (w : World), Bs w b → (∀ v ∈ vs, Ns v) → Bs (w.setCells c o vs) b
  | [], _, _, h, _ => h
  | v :: r, o, w, h, hv => Bs.sets c r (o + 1) _ (h.set ⟨c, o, none⟩ (hv v (by simp))) fun u hu => hv u (by simp [hu])
theorem Bs.keep {w w' : World} {b B : Nat} (h : Bs w b) (hb : Below B w w') (hB : b < B) : Bs w' b := fun a v ha hv => h a v ha (by rw [← hb.cell (p := a) (by rw [ha]; exact hB)]; exact hv)
theorem bs_box (w : World) (cs : Array Value) (T : TypeId) (h : ∀ v ∈ cs, Ns v) : Bs (w.alloc (.cells cs T)) w.heap.size := by
  intro a v ha hv
  unfold World.cell? at hv
  have e : (w.alloc (.cells cs T)).heap[w.heap.size]? = some (.cells cs T) := heap_alloc_new w _
  rw [ha, e] at hv
  dsimp only at hv
  split at hv
  · cases hv
  · exact h v (Array.mem_of_getElem? hv)
theorem cell_other {w w' : World} {b : Nat} (hk : ∀ k, k ≠ b → w'.heap[k]? = w.heap[k]?) {a : Addr} (ha : a.block ≠ b) : w'.cell? a = w.cell? a := by
  unfold World.cell?
  rw [hk _ ha]
def Mk {α : Type} (E : El α) : Prop := ∀ x, ∃ (j : Nat) (v : Value), (E.cl x)[j]? = some v ∧ ¬ Ns v
theorem rw_apart {α : Type} {E : El α} {w w' : World} {b : Nat} {A : Option Addr} {xs : List α} (hE : Mk E) (h : Rw E w A xs) (hb : Bs w b) (hk : ∀ k, k ≠ b → w'.heap[k]? = w.heap[k]?) : Rw E w' A xs := by
  refine ⟨h.1, fun q x hq => ?_⟩
  obtain ⟨y, hy, hc⟩ := h.2 q x hq
  refine ⟨y, hy, fun j v hv => ?_⟩
  have hne : y.block ≠ b := by
    intro e
    obtain ⟨i, u, hu, hn⟩ := hE x
    exact hn (hb _ u (by rw [add_block]; exact e) (hc i u hu))
  rw [cell_other hk (by rw [add_block]; exact hne)]
  exact hc j v hv
theorem u32_no (n : Int) : ¬ Ns (.int .u32 n) := fun h => h.1 n rfl
theorem u8_no (n : Int) : ¬ Ns (.int .u8 n) := fun h => h.2 n rfl
theorem mk_W : Mk Sw.eW := fun x => ⟨0, _, rfl, u32_no _⟩
theorem mk_P : Mk Pb.eP := fun x => ⟨0, _, rfl, u32_no _⟩
theorem mk_A : Mk Cs.eA := fun x => ⟨0, _, rfl, u32_no _⟩
theorem mk_K : Mk Sn.eK := fun x => ⟨0, _, rfl, u32_no _⟩
theorem mk_S : Mk Sn.eS := fun x => ⟨1, _, rfl, u8_no _⟩
theorem hs_apart {w w' : World} {b : Nat} {A : Option Addr} {xs : List Hl.Hr} (h : Hl.Hs w A xs) (hb : Bs w b) (hk : ∀ k, k ≠ b → w'.heap[k]? = w.heap[k]?) : Hl.Hs w' A xs := by
  refine ⟨h.1, fun q x hq => ?_⟩
  obtain ⟨ho, y, hy, hc⟩ := h.2 q x hq
  refine ⟨ho, y, hy, fun j v hv => ?_⟩
  have hne : y.block ≠ b := fun e => u32_no x.a (hb _ (.int .u32 x.a) (by rw [add_block]; exact e) (hc 0 _ rfl))
  rw [cell_other hk (by rw [add_block]; exact hne)]
  exact hc j v hv
theorem ks_apart {w w' : World} {b : Nat} {A : Option Addr} {ps : List Sn.Kp} (h : Sn.Ks w A ps) (hb : Bs w b) (hk : ∀ k, k ≠ b → w'.heap[k]? = w.heap[k]?) : Sn.Ks w' A ps := by
  obtain ⟨xs, e, h1, h2⟩ := h
  exact ⟨xs, e, rw_apart mk_K h1 hb hk, fun x hx => ⟨(h2 x hx).a0, (h2 x hx).a1, rw_apart mk_S (h2 x hx).lies hb hk, (h2 x hx).le, (h2 x hx).max⟩⟩
theorem Lie.apart {w w' : World} {b : Nat} {x : Stt} {r : Rws} (h : Lie w x r) (hb : Bs w b) (hk : ∀ k, k ≠ b → w'.heap[k]? = w.heap[k]?) : Lie w' x r :=
  ⟨hs_apart h.h hb hk, h.hc, rw_apart mk_W h.s hb hk, h.sc, ks_apart h.k hb hk, h.kc, rw_apart mk_P h.p hb hk, h.pc, rw_apart mk_A h.c hb hk, h.cc⟩
structure Sb (w : World) (b : Nat) (L : List Value) : Prop where
  cx : Cx w b L
  len : L.length = 7
  bs : Bs w b
theorem Sb.lt {w : World} {b : Nat} {L : List Value} (h : Sb w b L) : b < w.heap.size := by
  cases L with
  | nil => have := h.len; simp at this
  | cons u L => exact h.cx.lt
theorem Sb.keep {w w' : World} {b B : Nat} {L : List Value} (h : Sb w b L) (hb : Below B w w') (hB : b < B) : Sb w' b L := ⟨h.cx.keep hb hB, h.len, h.bs.keep hb hB⟩
theorem Sb.below {w w' : World} {b : Nat} {L : List Value} (h : Sb w b L) (hb : Below w.heap.size w w') : Sb w' b L := h.keep hb h.lt
theorem stl_ns (x : Stt) (r : Rws) : ∀ v ∈ stl x r, Ns v := by
  intro v hv
  simp only [stl, List.mem_cons, List.not_mem_nil, or_false] at hv
  rcases hv with rfl | rfl | rfl | rfl | rfl | rfl | rfl <;> first | exact ns_int _ | exact ns_sl _ _ _
theorem stl_one (x : Stt) (r : Rws) : (stl x r).toArray.all (·.oneCell') = true := by simp [stl, Value.oneCell']
theorem sb_box (w : World) (x : Stt) (r : Rws) : Sb (w.alloc (Stx x r)) w.heap.size (stl x r) := ⟨st_box w x r, rfl, bs_box w _ _ fun v hv => stl_ns x r v (by simpa [stl] using hv)⟩
theorem Sb.other {w w' : World} {b c : Nat} {L : List Value} (h : Sb w b L) (hk : ∀ k, k ≠ c → w'.heap[k]? = w.heap[k]?) (hne : b ≠ c) : Sb w' b L := ⟨cx_other h.cx hk hne, h.len, fun a v ha hv => h.bs a v ha (by rw [← cell_other hk (by rw [ha]; exact hne)]; exact hv)⟩
theorem at_wholeSt {ops : Array Oper} {rest : List Oper} {o : Oper} {a : Act} {w : World} {Q : Exit → Act → World → Prop} (x y : Operand) (b : Nat) (K L : List Value) (H : Sb w b K) (hL : L.length = 7) (hn : ∀ v ∈ L, Ns v) (h1 : L.toArray.all (·.oneCell') = true) (hgd : o.guard = none) (ho : o.op = .store 35 x y) (hx : a.eval x = .pointer (some ⟨b, 0, none⟩)) (hy : a.eval y = .agg L.toArray)
    (h : ∀ w', Hid (Sb w' b L) → Hid (∀ B, B ≤ b → Below B w w') → Hid (∀ k, k ≠ b → w'.heap[k]? = w.heap[k]?) → wpList Tryz.prog ops Q rest (a.put o.dst undef) w') : wpList Tryz.prog ops Q (o :: rest) a w := by
  have H7 : Cx w b ([] ++ (K ++ [])) := by simpa using H.cx
  refine wpList_store_mid hgd 35 x y ho b 0 L.toArray hx hy (fun j hj => ?_) (by rw [sizeSt]; simp [hL]) h1 (h _ ⟨?_, hL, H.bs.sets _ _ _ _ hn⟩ (fun _ hB => cx_below hB _ _ _ (Below.refl _ _)) (setCells_other b _ _ _))
  · simp [hL] at hj
    exact H.cx.2 j (by rw [H.len]; exact hj)
  · have := H7.put L (by rw [hL, H.len])
    simpa using this
theorem at_fieldSt {ops : Array Oper} {rest : List Oper} {o : Oper} {a : Act} {w : World} {Q : Exit → Act → World → Prop} (T : TypeId) (x y : Operand) (b : Nat) (p : List Value) (u v : Value) (s : List Value) (H : Sb w b (p ++ (u :: s)))
    (hsz : (Tryz.prog.info? T).map (·.size) = some 1) (hv : v.cells = #[v]) (hn : Ns v) (h1 : v.oneCell' = true) (hgd : o.guard = none) (ho : o.op = .store T x y) (hx : a.eval x = .pointer (some ⟨b, p.length, none⟩)) (hy : a.eval y = v)
    (h : ∀ w', Hid (Sb w' b (p ++ (v :: s))) → Hid (∀ B, B ≤ b → Below B w w') → Hid (∀ k, k ≠ b → w'.heap[k]? = w.heap[k]?) → wpList Tryz.prog ops Q rest (a.put o.dst undef) w') : wpList Tryz.prog ops Q (o :: rest) a w :=
  wpList_plain hgd fun _ hK => by
    unfold Oper.wp execOp
    simp only [ho, hx, hy, Instr.storeAt, Instr.sureAddr, Sem.run_bind, Sem.run_pure, Result.andThen_ok, run_storeVar_sc w b p.length T v hv (fun j hj => by have := H.cx.2 (p.length + j) (by simp; omega); rwa [Nat.zero_add] at this) hsz h1]
    exact hK _ _ (h _ ⟨Cx.put (old := [u]) [v] H.cx rfl, by have := H.len; simpa using this, H.bs.sets _ _ _ _ (fun z hz => by simp at hz; subst hz; exact hn)⟩ (fun _ hB => cx_below hB _ _ _ (Below.refl _ _)) (setCells_other b _ _ _))
end Go.Proofs.YtilneflfeegnfaaGreat
namespace Go.Proofs.YtilneflfeegnfaaGreat
open Go.RowKit
theorem stOf_any (c : Cf) (h : Option (Nat × Su.Mc)) (A : Option Addr) (ss : List Sn.Sg) (cap : Nat) (now : Int) (w : World) (hm : Su.HP w h) (hr : Rw Sn.eS w A ss) (hc : ss.length ≤ cap) (hx : ss.length ≤ 1000000) (hcd : c.c ≤ 1099511627776) :
    Calls Tryz.prog 44 #[cfv c, Su.hp h, .slice A ss.length cap, .int .i64 now] w fun e w' => e = .returned (.int .i64 (Su.stO c (h.map (·.2)) (ss.map sgu) now)) ∧ Below w.heap.size w w' := by
  have := Su.of_any c h A (ss.map sgu) cap now w hm (rw_sgu hr) (by rw [List.length_map]; exact hc) (by rw [List.length_map]; exact hx) hcd
  rwa [List.length_map] at this
end Go.Proofs.YtilneflfeegnfaaGreat
namespace Go.Proofs.YtilneflfeegnfaaGreat
open Go.RowKit
def stpO (x : Stt) (a : Int) : Stt := if (Cs.stO (fun _ => true) 4 x.now a x.cs).2 = 0 then { x with cs := (Cs.stO (fun _ => true) 4 x.now a x.cs).1 } else x
def StPost (w : World) (x : Stt) (e : Ending) (w' : World) : Prop := ∃ r, e = .returned (stv x r) ∧ Lie w' x r ∧ Below w.heap.size w w'
end Go.Proofs.YtilneflfeegnfaaGreat
