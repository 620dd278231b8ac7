/-
  The contract of seen.Put. Conditions: the row lies in memory, and has up to 1000 addresses, each of up to 1000 sightings.
-/
import Derived.Test.YtcnhagcmklgpkaaCopied
import Derived.Test.YtcnhagcmklgpkaaOt
set_option linter.unusedSimpArgs false
set_option linter.unusedVariables false
namespace Go.Proofs.Ytcnhagcmklgpkaa
open Go.RowKit

/-- How far a row goes. -/
def Bd (ps : List Kp) : Prop := ps.length ≤ 1000 ∧ ∀ x ∈ ps, x.ss.length ≤ 1000
/-- The row with one more sighting, and what is told. -/
def ins (ps : List Kp) (a : Int) (s : Sg) : List Kp := ps.take (lo ps a) ++ [⟨a, kp (sg ps a) s⟩] ++ ps.drop (lo ps a + if isAt ps a = true then 1 else 0)
def putC (ps : List Kp) (a : Int) (s : Sg) : Int :=
  if isrc s.f = false then 12 else if s.t < 0 ∨ any (sg ps a) = true ∧ s.t < tk (sg ps a) then 3 else if any (sg ps a) = false ∧ 96 ≤ ps.length then 4 else 0
def putR (ps : List Kp) (a : Int) (s : Sg) : List Kp := if putC ps a s = 0 then ins ps a s else []
def OutPost (w : World) (ys : List Kp) (q : Int) (e : Ending) (w' : World) : Prop := ∃ v, e = .returned (.tuple #[v, .int .i64 q]) ∧ Below w.heap.size w w' ∧ kF ys v w'
theorem out_no (w w' : World) (q : Int) (hb : Below w.heap.size w w') : OutPost w [] q (.returned (.tuple #[.slice none 0 0, .int .i64 q])) w' := ⟨_, rfl, hb, kF_nil _⟩
theorem sg_le {ps : List Kp} {n : Nat} (h : ∀ x ∈ ps, x.ss.length ≤ n) (a : Int) : (sg ps a).length ≤ n := by
  cases hI : isAt ps a with
  | false => rw [sg_no hI]; simp
  | true =>
    obtain ⟨x, hx, _⟩ := isAt_some hI
    rw [sg_at hI hx]
    exact h x (List.mem_of_getElem? hx)
theorem kp_le (ss : List Sg) (s : Sg) : (kp ss s).length ≤ 8 := by
  unfold kp
  rw [List.length_append, List.length_drop, List.length_singleton]
  omega
/-- An address with its sightings, as a value; in a variable. -/
def bF (a : Int) (ss : List Sg) : Value → World → Prop := fun v W => ∃ A c, v = .agg #[.int .u32 a, .slice A ss.length c] ∧ ss.length ≤ c ∧ c ≤ maxLen ∧ Rw eS W A ss
theorem stable_bF (a : Int) (ss : List Sg) : Stable (bF a ss) := fun _ _ _ ⟨A, c, h1, h2, h3, h4⟩ hb => ⟨A, c, h1, h2, h3, h4.below hb⟩
def zF (B : Nat) : Value → World → Prop := fun v W => ∃ b, v = .pointer (some ⟨b, 0, none⟩) ∧ B ≤ b ∧ b < W.heap.size ∧ W.cell? ⟨b, 0, none⟩ = some (.int .u32 0) ∧ W.cell? ⟨b, 1, none⟩ = some (.slice none 0 0) ∧ ∀ j, W.frozen? ⟨b, j, none⟩ = false
theorem stable_zF (B : Nat) : Stable (zF B) := fun v w w' ⟨b, h1, h2, h3, h4, h5, h6⟩ hb => ⟨b, h1, h2, Nat.lt_of_lt_of_le h3 hb.size, by rw [hb.cell (p := ⟨b, 0, none⟩) h3]; exact h4, by rw [hb.cell (p := ⟨b, 1, none⟩) h3]; exact h5, fun j => by rw [hb.frozen (p := ⟨b, j, none⟩) h3]; exact h6 j⟩
/-- A row of one address. -/
theorem k_one (W : World) (x : Kn) (hx : x.In W) : kF [x.p] (.slice (some ⟨W.heap.size, 0, none⟩) 1 1) (W.alloc (.cells #[.int .u32 x.a, .slice x.P x.ss.length x.c] 53)) := by
  refine ⟨_, 1, rfl, by simp, by unfold maxLen; omega, [x], rfl, ⟨by simp, fun q z hq => ?_⟩, fun z hz => ?_⟩
  · match q, hq with
    | 0, hq =>
      simp at hq
      subst hq
      refine ⟨_, rfl, fun j v hv => ?_⟩
      rw [Addr.add_mid]
      change (kl x)[j]? = some v at hv
      show (W.alloc _).cell? ⟨W.heap.size, 0 + (0 * 2 + j), none⟩ = _
      match j, hv with
      | 0, h => simp [kl] at h; subst h; simp
      | 1, h => simp [kl] at h; subst h; simp
      | j + 2, h => simp [kl] at h
    | q + 1, hq => simp at hq
  · simp at hz
    subst hz
    exact hx.below ((Below.refl _ _).alloc (Nat.le_refl _) _)
/-- Parts that come to a row of addresses. -/
def qK (rs : List Kp) : Value → World → Prop := fun v W => ∃ b qs, v = .slice (some ⟨b, 0, none⟩) 3 3 ∧ List.length qs = 3 ∧ Pm eK W b qs ∧ (cat qs 3).map Kn.p = rs ∧ ∀ x ∈ cat qs 3, x.In W
theorem stable_qK (rs : List Kp) : Stable (qK rs) := fun _ _ _ ⟨b, qs, h1, h2, h3, h4, h5⟩ hb => ⟨b, qs, h1, h2, h3.below hb, h4, fun x hx => (h5 x hx).below hb⟩
theorem qK_three {W : World} {A1 A2 A3 : Option Addr} {c1 c2 c3 : Nat} {r1 r2 r3 : List Kp} (h1 : Ks W A1 r1) (h2 : Ks W A2 r2) (h3 : Ks W A3 r3) : qK (r1 ++ r2 ++ r3) (.slice (some ⟨W.heap.size, 0, none⟩) 3 3) (W.alloc (.cells #[.slice A1 r1.length c1, .slice A2 r2.length c2, .slice A3 r3.length c3] 25)) := by
  obtain ⟨x1, rfl, g1⟩ := h1
  obtain ⟨x2, rfl, g2⟩ := h2
  obtain ⟨x3, rfl, g3⟩ := h3
  refine ⟨_, [⟨A1, x1, c1⟩, ⟨A2, x2, c2⟩, ⟨A3, x3, c3⟩], rfl, rfl, ?_, by simp [cat], fun x hx => ?_⟩
  · have := pm_three W ⟨A1, x1, c1⟩ ⟨A2, x2, c2⟩ ⟨A3, x3, c3⟩ 25 g1.1 g2.1 g3.1
    simpa using this
  · have hb : Below W.heap.size W (W.alloc (.cells #[.slice A1 (x1.map Kn.p).length c1, .slice A2 (x2.map Kn.p).length c2, .slice A3 (x3.map Kn.p).length c3] 25)) := (Below.refl _ _).alloc (Nat.le_refl _) _
    simp [cat] at hx
    rcases hx with hx | hx | hx
    · exact (g1.2 x hx).below hb
    · exact (g2.2 x hx).below hb
    · exact (g3.2 x hx).below hb
theorem concat_k {W : World} {b : Nat} {qs : List (Pt Kn)} {rs : List Kp} (hl : List.length qs = 3) (hp : Pm eK W b qs) (he : (cat qs 3).map Kn.p = rs) (hin : ∀ x ∈ cat qs 3, x.In W) (hn : rs.length ≤ 1000000) : Calls Try.prog 25 #[.slice (some ⟨b, 0, none⟩) 3 3] W (KPost W rs) := by
  have hcl : (cat qs 3).length = rs.length := by rw [← he, List.length_map]
  have := concatK_any qs b 3 W hp (by rw [hl]; omega) (by omega)
  rw [hl] at this
  refine this.mono ?_
  rintro e w' ⟨v, rfl, ho, hb⟩
  obtain ⟨A, c, rfl, h1, h2, h3, h4, h5⟩ := own_rw (E := eK) ho (by omega)
  exact ⟨_, rfl, hb, A, c, by rw [hcl], by omega, h2, cat qs 3, he, h4, fun x hx => (hin x hx).below hb⟩
theorem Ks.take {w : World} {A : Option Addr} {ps : List Kp} (h : Ks w A ps) (n : Nat) : Ks w A (ps.take n) := by
  obtain ⟨xs, rfl, h⟩ := h
  exact ⟨xs.take n, by rw [List.map_take], h.1.take n, fun x hx => h.2 x (List.mem_of_mem_take hx)⟩
theorem Ks.rest {w : World} {A : Option Addr} {ps : List Kp} (h : Ks w A ps) {c : Nat} (hc : ps.length ≤ c) (k : Nat) : Ks w (dA 2 A c k) (ps.drop k) := by
  obtain ⟨xs, rfl, h⟩ := h
  exact ⟨xs.drop k, by rw [List.map_drop], h.1.rest (by rw [List.length_map] at hc; exact hc) k, fun x hx => h.2 x (List.mem_of_mem_drop hx)⟩
theorem calls_bx {f : FuncId} {args : Array Value} {W : World} {v : Value} {Φ : List (Value → World → Prop)} {i : Nat} (h : Calls Try.prog f args W fun e w' => e = .returned v ∧ Below W.heap.size W w') (hi : fAt Φ i = fx v) : Calls Try.prog f args W fun e w' => ∃ v, e = .returned v ∧ Below W.heap.size W w' ∧ fAt Φ i v w' := by
  rw [hi]; exact h.mono fun e w' ⟨h1, h2⟩ => ⟨v, h1, h2, rfl⟩

/-- What holds of the variable that has the new address. -/
def oneX (b : Nat) (a : Int) (A5 : Option Addr) (c5 N : Nat) (KK : List Sg) (W : World) : Prop := b < W.heap.size ∧ W.cell? ⟨b, 0, none⟩ = some (.int .u32 a) ∧ W.cell? ⟨b, 1, none⟩ = some (.slice A5 N c5) ∧ Rw eS W A5 KK
theorem oneX_below {b : Nat} {a : Int} {A5 : Option Addr} {c5 N : Nat} {KK : List Sg} {W W' : World} (h : oneX b a A5 c5 N KK W) (hb : Below W.heap.size W W') : W'.cell? ⟨b, 0, none⟩ = some (.int .u32 a) ∧ W'.cell? ⟨b, 1, none⟩ = some (.slice A5 N c5) ∧ Rw eS W' A5 KK :=
  ⟨by rw [hb.cell (p := ⟨b, 0, none⟩) h.1]; exact h.2.1, by rw [hb.cell (p := ⟨b, 1, none⟩) h.1]; exact h.2.2.1, h.2.2.2.below hb⟩
theorem one_stored {W : World} {b : Nat} {a : Int} {A5 : Option Addr} {c5 : Nat} {ss : List Sg} (hb : b < W.heap.size) (h0 : W.cell? ⟨b, 0, none⟩ = some (.int .u32 0)) (h1 : W.cell? ⟨b, 1, none⟩ = some (.slice none 0 0)) (hr : Rw eS W A5 ss) :
    oneX b a A5 c5 ss.length ss ((W.setCell ⟨b, 0, none⟩ (.int .u32 a)).setCell ⟨b, 1, none⟩ (.slice A5 ss.length c5)) := by
  have h1' : (W.setCell ⟨b, 0, none⟩ (.int .u32 a)).cell? ⟨b, 1, none⟩ = some (.slice none 0 0) := by rw [World.cell?_setCell_other _ _ _ _ (by simp)]; exact h1
  refine ⟨by simpa using hb, ?_, World.cell?_setCell_same _ _ _ h1', rwS_stored ?_ h1' _⟩
  · rw [World.cell?_setCell_other _ _ _ _ (by simp)]
    exact World.cell?_setCell_same _ _ _ h0
  · refine ⟨hr.1, fun q x hq => ?_⟩
    obtain ⟨y, hy, hc⟩ := hr.2 q x hq
    refine ⟨y, hy, fun j v hv => ?_⟩
    have h2 := hc j v hv
    rw [World.cell?_setCell_other]
    · exact h2
    · intro e
      rw [← e, h0] at h2
      injection h2 with h2
      subst h2
      have := List.mem_of_getElem? hv
      simp [eS, sl] at this

set_option maxRecDepth 100000 in
set_option maxHeartbeats 4000000 in
theorem put_any (a : Int) (s : Sg) (A : Option Addr) (xs : List Kp) (cap : Nat) (w : World) (h : Ks w A xs) (hc : xs.length ≤ cap) (hbd : Bd xs) (ha0 : 0 ≤ a) (ha1 : a < 4294967296) :
    Calls Try.prog 11 #[.slice A xs.length cap, .int .u32 a, sv s] w (OutPost w (putR xs a s) (putC xs a s)) := by
  have hle := lo_le a xs
  have hln := h.len
  have HBB0 := Lib.hid (show Below w.heap.size w (w.alloc (Sx s)) from (Below.refl _ w).alloc (Nat.le_refl _) _)
  have HM := Lib.hid (src_any s.f (w.alloc (Sx s)))
  cases hY : isrc s.f
  · have HT := Lib.hid (show putR xs a s = [] ∧ putC xs a s = 12 by simp [putR, putC, hY])
    rw [hY] at HM
    rw [HT.out.1, HT.out.2]
    clear hY h HT hbd
    generalize xs.length = L at *
    obtain ⟨sf, x0, x1, x2, x3, x4, x5, st⟩ := s
    simp only [sv, Sx] at HM HBB0 ⊢
    go_enter Try.func11, Try.ntmps11
    go_wp2_with fail
    refine HM.out.mono ?_
    rintro e w1 ⟨rfl, rfl⟩
    go_wp2_with fail
    go_ret2
    exact out_no w _ 12 HBB0.out
  have HLA := Lib.hid (last_any a A xs cap (w.alloc (Sx s)) (h.below HBB0.out) hc ha0 ha1)
  rw [hY] at HM
  by_cases hR3 : s.t < 0 ∨ any (sg xs a) = true ∧ s.t < tk (sg xs a)
  · have HT := Lib.hid (show putR xs a s = [] ∧ putC xs a s = 3 by
      have e : putC xs a s = 3 := by unfold putC; rw [if_neg (by rw [hY]; simp), if_pos hR3]
      exact ⟨by unfold putR; rw [e]; rfl, e⟩)
    rw [HT.out.1, HT.out.2]
    clear hY h HT hbd
    generalize xs.length = L at *
    by_cases h0 : s.t < 0
    · generalize any (sg xs a) = B1 at *
      generalize tk (sg xs a) = T1 at *
      clear hR3
      obtain ⟨sf, x0, x1, x2, x3, x4, x5, st⟩ := s
      simp only [sv, Sx] at HM HBB0 HLA h0 ⊢
      go_enter Try.func11, Try.ntmps11
      go_wp2_with fail
      refine HM.out.mono ?_
      rintro e w1 ⟨rfl, rfl⟩
      go_wp2_with fail
      refine HLA.out.mono ?_
      rintro e w1 ⟨rfl, n1, rfl⟩
      go_wp2_with fail
      go_ret2
      exact out_no w _ 3 (bdrewN HBB0.out n1)
    · obtain ⟨hB1, hT1⟩ : any (sg xs a) = true ∧ s.t < tk (sg xs a) := hR3.resolve_left h0
      rw [hB1] at HLA
      generalize tk (sg xs a) = T1 at *
      clear hR3 hB1
      obtain ⟨sf, x0, x1, x2, x3, x4, x5, st⟩ := s
      simp only [sv, Sx] at HM HBB0 HLA h0 hT1 ⊢
      go_enter Try.func11, Try.ntmps11
      go_wp2_with fail
      refine HM.out.mono ?_
      rintro e w1 ⟨rfl, rfl⟩
      go_wp2_with fail
      refine HLA.out.mono ?_
      rintro e w1 ⟨rfl, n1, rfl⟩
      go_wp2_with fail
      go_ret2
      exact out_no w _ 3 (bdrewN HBB0.out n1)
  by_cases hR4 : any (sg xs a) = false ∧ 96 ≤ xs.length
  · have HT := Lib.hid (show putR xs a s = [] ∧ putC xs a s = 4 by
      have e : putC xs a s = 4 := by unfold putC; rw [if_neg (by rw [hY]; simp), if_neg hR3, if_pos hR4]
      exact ⟨by unfold putR; rw [e]; rfl, e⟩)
    rw [HT.out.1, HT.out.2]
    rw [hR4.1] at HLA
    have h96 : (96 : Int) ≤ xs.length := by have := hR4.2; omega
    have h0 : ¬ s.t < 0 := fun e => hR3 (.inl e)
    clear hY h HT hbd hR3 hR4
    generalize xs.length = L at *
    generalize tk (sg xs a) = T1 at *
    obtain ⟨sf, x0, x1, x2, x3, x4, x5, st⟩ := s
    simp only [sv, Sx] at HM HBB0 HLA h0 ⊢
    go_enter Try.func11, Try.ntmps11
    go_wp2_with fail
    refine HM.out.mono ?_
    rintro e w1 ⟨rfl, rfl⟩
    go_wp2_with fail
    refine HLA.out.mono ?_
    rintro e w1 ⟨rfl, n1, rfl⟩
    go_wp2_with fail
    go_ret2
    exact out_no w _ 4 (bdrewN HBB0.out n1)
  have HT := Lib.hid (show putR xs a s = ins xs a s ∧ putC xs a s = 0 by
    have e : putC xs a s = 0 := by unfold putC; rw [if_neg (by rw [hY]; simp), if_neg hR3, if_neg hR4]
    exact ⟨by unfold putR; rw [e]; rfl, e⟩)
  rw [HT.out.1, HT.out.2]
  have h0 : ¬ s.t < 0 := fun e => hR3 (.inl e)
  have h1 : any (sg xs a) = true → ¬ s.t < tk (sg xs a) := fun e1 e2 => hR3 (.inr ⟨e1, e2⟩)
  have h2 : any (sg xs a) = false → ¬ (96 : Int) ≤ xs.length := fun e1 e2 => hR4 ⟨e1, by omega⟩
  have HBX0 := Lib.hid (rw_one w s)
  have HR := Lib.hid h
  have HPL := Lib.hid fun n => place_any a A xs cap ((w.alloc (Sx s)).drewN n) ((h.below HBB0.out).drewN n) ha0 ha1
  obtain ⟨R, hRR⟩ : ∃ R, ins xs a s = R := ⟨_, rfl⟩
  obtain ⟨G, hG⟩ : ∃ G, sg xs a = G := ⟨_, rfl⟩
  have hGl : G.length ≤ 1000 := by rw [← hG]; exact sg_le hbd.2 a
  have HKK := Lib.hid (kp_le G s)
  have HKP := Lib.hid fun W A3 c3 (h3 : Rw eS W A3 G) (hc3 : G.length ≤ c3) => keep_any s A3 G c3 W h3 hc3 (by omega)
  have HOF := Lib.hid (show ∀ W, Below w.heap.size w W → Calls Try.prog 14 #[.slice A xs.length cap, .int .u32 a] W (SPost W G) from fun W hW => by
    have := of_any a A xs cap W (h.below hW) hc (fun x hx => Nat.le_trans (hbd.2 x hx) (by omega)) ha0 ha1
    rw [hG] at this
    exact this)
  have HC1 := Lib.hid (show ∀ W, Below w.heap.size w W → Calls Try.prog 26 #[.slice A (lo xs a) cap] W (KPost W (xs.take (lo xs a))) from fun W hW => by
    have := copied_any A (xs.take (lo xs a)) cap W ((h.below hW).take _) (by rw [List.length_take]; omega) (by rw [List.length_take]; have := hbd.1; omega) (fun x hx => Nat.le_trans (hbd.2 x (List.mem_of_mem_take hx)) (by omega))
    rw [List.length_take, Nat.min_eq_left hle] at this
    exact this)
  have HC2 := Lib.hid (show ∀ D W, Below w.heap.size w W → Calls Try.prog 26 #[.slice (dA 2 A cap D) (xs.length - D) (cap - D)] W (KPost W (xs.drop D)) from fun D W hW => by
    have := copied_any (dA 2 A cap D) (xs.drop D) (cap - D) W ((h.below hW).rest hc D) (by rw [List.length_drop]; omega) (by rw [List.length_drop]; have := hbd.1; omega) (fun x hx => Nat.le_trans (hbd.2 x (List.mem_of_mem_drop hx)) (by omega))
    rw [List.length_drop] at this
    exact this)
  have HSH := Lib.hid (fun W => slK_h A xs.length cap (lo xs a) (by omega) W)
  have HSL := fun W => slK_l A xs.length cap (lo xs a) hle hc W
  have hL9 := hbd.1
  have HQ := Lib.hid (show ∀ (D : Nat), xs.take (lo xs a) ++ [⟨a, kp G s⟩] ++ xs.drop D = R → ∀ W A3 A5 A7 c3 c5 c7, Ks W A3 (xs.take (lo xs a)) → Ks W A5 [⟨a, kp G s⟩] → Ks W A7 (xs.drop D) → qK R (.slice (some ⟨W.heap.size, 0, none⟩) 3 3) (W.alloc (.cells #[.slice A3 (xs.take (lo xs a)).length c3, .slice A5 [(⟨a, kp G s⟩ : Kp)].length c5, .slice A7 (xs.drop D).length c7] 25)) from fun D hD W A3 A5 A7 c3 c5 c7 g3 g5 g7 => by
    rw [← hD]
    exact qK_three g3 g5 g7)
  have HA := Lib.hid (show (0 ≤ a ∧ a < 4294967296) from ⟨ha0, ha1⟩)
  have HRL := Lib.hid (show R.length ≤ 1000000 by
    rw [← hRR]
    unfold ins
    rw [List.length_append, List.length_append, List.length_take, List.length_drop, List.length_singleton]
    omega)
  have HD := Lib.hid (show xs.take (lo xs a) ++ [⟨a, kp G s⟩] ++ xs.drop (lo xs a + if isAt xs a = true then 1 else 0) = R by rw [← hRR, ← hG]; rfl)
  rw [hG] at HLA h1 h2
  rw [hRR]
  have hI : isAt xs a = true → lo xs a < xs.length := fun e => by obtain ⟨_, _, _, e⟩ := isAt_some e; exact e
  have HSL1 := fun (e : isAt xs a = true) W => slK_l A xs.length cap (lo xs a + 1) (hI e) hc W
  clear hY h HT hbd hR3 hR4 hRR hG
  generalize isAt xs a = I at *
  cases I
  · replace HQ := Lib.hid (HQ.out _ HD.out)
    replace HC2 := Lib.hid (HC2.out (lo xs a))
    simp only [Bool.false_eq_true, if_false, if_true, Nat.add_zero] at HQ HPL HD
    generalize xs.take (lo xs a) = T1 at *
    generalize xs.drop (lo xs a) = T2 at *
    generalize xs.length = L at *
    generalize lo xs a = P at *
    clear hI HSL1
    generalize any G = B1 at *
    generalize tk G = K1 at *
    obtain ⟨sf, x0, x1, x2, x3, x4, x5, st⟩ := s
    simp only [sv, Sx] at HM HBB0 HLA HPL HBX0 h0 h1 HKP HKK HQ ⊢
    cases B1
    · replace h2 := h2 rfl
      clear h1
      go_enter Try.func11, Try.ntmps11
      go_wp2_with fail
      refine HM.out.mono ?_
      rintro e w1 ⟨rfl, rfl⟩
      go_wp2_with fail
      refine HLA.out.mono ?_
      rintro e w1 ⟨rfl, n1, rfl⟩
      go_wp2_with fail
      refine (HPL.out n1).mono ?_
      rintro e w2 ⟨rfl, n2, hw2⟩
      have HB2 := Lib.hid (show Below w.heap.size w w2 from hw2 ▸ bdrewN (bdrewN HBB0.out n1) n2)
      have HBX := Lib.hid (show Rw eS w2 (some ⟨w.heap.size, 0, none⟩) [⟨sf, x0, x1, x2, x3, x4, x5, st⟩] from hw2 ▸ (HBX0.out.drewN n1).drewN n2)
      clear hw2 HM HLA HPL HBX0
      go_wp2_with fail
      refine wp_region_below_end (by simp) [fx (.int .u32 a), fx (.slice A L cap), fx (.int .u32 a), sF G, fx (.agg #[.int .i64 sf, .int .u8 x0, .int .u8 x1, .int .u8 x2, .int .u8 x3, .int .u8 x4, .int .u8 x5, .int .i64 st]), sF (kp G ⟨sf, x0, x1, x2, x3, x4, x5, st⟩), bF a (kp G ⟨sf, x0, x1, x2, x3, x4, x5, st⟩), zF w.heap.size]
        (by kernel_rfl) (by kernel_rfl) (by kernel_rfl) (by kernel_rfl) ?_ ?_ ?_
      · simp only [List.mem_cons, List.not_mem_nil, or_false]
        rintro φ (rfl | rfl | rfl | rfl | rfl | rfl | rfl | rfl)
        all_goals first | exact stable_fx _ | exact stable_fr _ _ | exact stable_sF _ | exact stable_bF _ _ | exact stable_zF _
      · refine OgSteps.cons ?_ (OgSteps.cons ?_ (OgSteps.cons ?_ (OgSteps.cons ?_ (OgSteps.cons ?_ (OgSteps.cons ?_ (OgSteps.cons ?_ (OgSteps.cons ?_ (OgSteps.nil))))))))
        · refine OgStep.pure ?_ ?_
          · rfl
          intro u W hS hp
          refine ⟨.int .u32 a, ?_, rfl⟩
          simp only [ogMk, Act.put, List.setIfInBounds_toArray, List.set_cons_zero, List.set_cons_succ, Nat.zero_add, Nat.reduceAdd]
          simp [execOp, Act.eval, go_sem]
        · refine OgStep.pure ?_ ?_
          · rfl
          intro u W hS hp
          refine ⟨.slice A L cap, ?_, rfl⟩
          simp only [ogMk, Act.put, List.setIfInBounds_toArray, List.set_cons_zero, List.set_cons_succ, Nat.zero_add, Nat.reduceAdd]
          simp [execOp, Act.eval, go_sem]
        · refine OgStep.pure ?_ ?_
          · rfl
          intro u W hS hp
          refine ⟨.int .u32 a, ?_, rfl⟩
          simp only [ogMk, Act.put, List.setIfInBounds_toArray, List.set_cons_zero, List.set_cons_succ, Nat.zero_add, Nat.reduceAdd]
          simp [execOp, Act.eval, go_sem]
        · refine OgStep.calls ?_ ?_
          · rfl
          intro u W hS hp
          have h1 : u 1 = .slice A L cap := hp ⟨1, .data⟩ (by simp) rfl
          have h2 : u 2 = .int .u32 a := hp ⟨2, .data⟩ (by simp) rfl
          refine ⟨14, #[.slice A L cap, .int .u32 a], ?_, calls_sF (HOF.out W (HB2.out.trans (hS.mono HB2.out.size))) rfl⟩
          simp only [ogMk, Act.put, List.setIfInBounds_toArray, List.set_cons_zero, List.set_cons_succ, Nat.zero_add, Nat.reduceAdd]
          simp [execOp, Act.eval, go_sem, h1, h2]
        · refine OgStep.pure ?_ ?_
          · rfl
          intro u W hS hp
          obtain ⟨R0, R1, R2, R3, R4, R5, R6, R7⟩ := s_c8 (HBX.out.below hS)
          refine ⟨.agg #[.int .i64 sf, .int .u8 x0, .int .u8 x1, .int .u8 x2, .int .u8 x3, .int .u8 x4, .int .u8 x5, .int .i64 st], ?_, rfl⟩
          simp only [ogMk, Act.put, List.setIfInBounds_toArray, List.set_cons_zero, List.set_cons_succ, Nat.zero_add, Nat.reduceAdd]
          simp [execOp, Act.eval, go_sem, R0, R1, R2, R3, R4, R5, R6, R7]
        · refine OgStep.calls ?_ ?_
          · rfl
          intro u W hS hp
          obtain ⟨A3, c3, h3, hc3, _, hR3⟩ : sF G (u 3) W := hp ⟨3, .data⟩ (by simp) rfl
          have h4 : u 4 = .agg #[.int .i64 sf, .int .u8 x0, .int .u8 x1, .int .u8 x2, .int .u8 x3, .int .u8 x4, .int .u8 x5, .int .i64 st] := hp ⟨4, .data⟩ (by simp) rfl
          refine ⟨16, #[.slice A3 G.length c3, .agg #[.int .i64 sf, .int .u8 x0, .int .u8 x1, .int .u8 x2, .int .u8 x3, .int .u8 x4, .int .u8 x5, .int .i64 st]], ?_, calls_sF (HKP.out W A3 c3 hR3 hc3) rfl⟩
          simp only [ogMk, Act.put, List.setIfInBounds_toArray, List.set_cons_zero, List.set_cons_succ, Nat.zero_add, Nat.reduceAdd]
          rw [h3, h4]
          simp [execOp, Act.eval, go_sem]
        · refine OgStep.pure ?_ ?_
          · rfl
          intro u W hS hp
          obtain ⟨A5, c5, h5, hc5, hm5, hR5⟩ : sF (kp G ⟨sf, x0, x1, x2, x3, x4, x5, st⟩) (u 5) W := hp ⟨5, .data⟩ (by simp) rfl
          have h0 : u 0 = .int .u32 a := hp ⟨0, .data⟩ (by simp) rfl
          refine ⟨.agg #[.int .u32 a, .slice A5 (kp G ⟨sf, x0, x1, x2, x3, x4, x5, st⟩).length c5], ?_, ⟨A5, c5, rfl, hc5, hm5, hR5⟩⟩
          simp only [ogMk, Act.put, List.setIfInBounds_toArray, List.set_cons_zero, List.set_cons_succ, Nat.zero_add, Nat.reduceAdd]
          rw [h0, h5]
          simp [execOp, Act.eval, go_sem]
        · refine OgStep.made ?_ ?_
          · rfl
          intro u W hS hp
          refine ⟨.pointer (some ⟨W.heap.size, 0, none⟩), _, ?_, (Below.refl _ W).alloc (Nat.le_refl _) (.cells #[.int .u32 0, .slice none 0 0] 53), ⟨W.heap.size, rfl, Nat.le_trans HB2.out.size hS.size, by simp, by simp, by simp, fun j => by simp⟩⟩
          simp only [ogMk, Act.put, List.setIfInBounds_toArray, List.set_cons_zero, List.set_cons_succ, Nat.zero_add, Nat.reduceAdd]
          simp [execOp, Act.eval, go_sem]
      · intro u W hS hF
        have hF' := hF
        have e0 : u 0 = .int .u32 a := hF 0 (by decide)
        have e1 : u 1 = .slice A L cap := hF 1 (by decide)
        have e2 : u 2 = .int .u32 a := hF 2 (by decide)
        have e4 : u 4 = .agg #[.int .i64 sf, .int .u8 x0, .int .u8 x1, .int .u8 x2, .int .u8 x3, .int .u8 x4, .int .u8 x5, .int .i64 st] := hF 4 (by decide)
        simp only [ogMk, Act.put, List.setIfInBounds_toArray, List.set_cons_zero, List.set_cons_succ, Nat.zero_add, Nat.reduceAdd]
        rw [e0, e1, e2, e4]
        clear e0 e1 e2 e4 hF
        obtain ⟨A5, c5, e6, hc5, hm5, hR5⟩ : bF a (kp G ⟨sf, x0, x1, x2, x3, x4, x5, st⟩) (u 6) W := hF' 6 (by decide)
        obtain ⟨b, e7, hb1, hb2, hb3, hb4, hb5⟩ : zF w.heap.size (u 7) W := hF' 7 (by decide)
        obtain ⟨A3, c3, e3, _⟩ : sF G (u 3) W := hF' 3 (by decide)
        obtain ⟨A4, c4, e5, _⟩ : sF (kp G ⟨sf, x0, x1, x2, x3, x4, x5, st⟩) (u 5) W := hF' 5 (by decide)
        rw [e3, e5, e6, e7]
        have HW := Lib.hid (HB2.out.trans (hS.mono HB2.out.size))
        clear hF' e3 e5 e6 e7
        have hf0 := hb5 0
        have hf1 := hb5 1
        have HB4 := Lib.hid (show Below w.heap.size w ((W.setCell ⟨b, 0, none⟩ (.int .u32 a)).setCell ⟨b, 1, none⟩ (.slice A5 (kp G ⟨sf, x0, x1, x2, x3, x4, x5, st⟩).length c5)) from (HW.out.setCell hb1 _).setCell hb1 _)
        have HX := Lib.hid (show oneX b a A5 c5 (kp G ⟨sf, x0, x1, x2, x3, x4, x5, st⟩).length (kp G ⟨sf, x0, x1, x2, x3, x4, x5, st⟩) ((W.setCell ⟨b, 0, none⟩ (.int .u32 a)).setCell ⟨b, 1, none⟩ (.slice A5 (kp G ⟨sf, x0, x1, x2, x3, x4, x5, st⟩).length c5)) from one_stored hb2 hb3 hb4 hR5)
        have HK1 := Lib.hid fun W (hW : Rw eS W A5 (kp G ⟨sf, x0, x1, x2, x3, x4, x5, st⟩)) => k_one W ⟨a, A5, c5, kp G ⟨sf, x0, x1, x2, x3, x4, x5, st⟩⟩ ⟨HA.out.1, HA.out.2, hW, hc5, hm5⟩
        clear hR5 hS hb5 hm5 hc5 HBX
        go_wp2_with fail
        refine wp_region_below [fx (.slice A L cap), fx (.int .i64 (P : Int)), fx (.slice A P cap), kF T1, fx (.agg #[.int .u32 a, .slice A5 (kp G ⟨sf, x0, x1, x2, x3, x4, x5, st⟩).length c5]), kF [⟨a, (kp G ⟨sf, x0, x1, x2, x3, x4, x5, st⟩)⟩], fx (.slice (dA 2 A cap (P)) (L - (P)) (cap - (P))), kF T2, qK R, kF R, kF R, fx (.int .i64 0)]
          (by kernel_rfl) (by kernel_rfl) (by kernel_rfl) ?_ ?_ ?_
        · simp only [List.mem_cons, List.not_mem_nil, or_false]
          rintro φ (rfl | rfl | rfl | rfl | rfl | rfl | rfl | rfl | rfl | rfl | rfl | rfl)
          all_goals first | exact stable_fx _ | exact stable_fr _ _ | exact stable_kF _ | exact stable_qK _
        · refine OgSteps.cons ?_ (OgSteps.cons ?_ (OgSteps.cons ?_ (OgSteps.cons ?_ (OgSteps.cons ?_ (OgSteps.cons ?_ (OgSteps.cons ?_ (OgSteps.cons ?_ (OgSteps.cons ?_ (OgSteps.cons ?_ (OgSteps.cons ?_ (OgSteps.cons ?_ (OgSteps.nil))))))))))))
          · refine OgStep.pure ?_ ?_
            · rfl
            intro u W hS hp
            refine ⟨.slice A L cap, ?_, rfl⟩
            simp only [ogMk, Act.put, List.setIfInBounds_toArray, List.set_cons_zero, List.set_cons_succ, Nat.zero_add, Nat.reduceAdd]
            simp [execOp, Act.eval, go_sem]
          · refine OgStep.pure ?_ ?_
            · rfl
            intro u W hS hp
            refine ⟨.int .i64 (P : Int), ?_, rfl⟩
            simp only [ogMk, Act.put, List.setIfInBounds_toArray, List.set_cons_zero, List.set_cons_succ, Nat.zero_add, Nat.reduceAdd]
            simp [execOp, Act.eval, go_sem]
          · refine OgStep.pure ?_ ?_
            · rfl
            intro u W hS hp
            have h0 : u 0 = .slice A L cap := hp ⟨0, .data⟩ (by simp) rfl
            have h1 : u 1 = .int .i64 (P : Int) := hp ⟨1, .data⟩ (by simp) rfl
            have R := HSH.out W
            refine ⟨.slice A P cap, ?_, rfl⟩
            simp only [ogMk, Act.put, List.setIfInBounds_toArray, List.set_cons_zero, List.set_cons_succ, Nat.zero_add, Nat.reduceAdd]
            simp [execOp, Act.eval, go_sem, h0, h1, R]
          · refine OgStep.calls ?_ ?_
            · rfl
            intro u W hS hp
            have h2 : u 2 = .slice A P cap := hp ⟨2, .data⟩ (by simp) rfl
            refine ⟨26, #[.slice A P cap], ?_, calls_kF (HC1.out W (HB4.out.trans (hS.mono HB4.out.size))) rfl⟩
            simp only [ogMk, Act.put, List.setIfInBounds_toArray, List.set_cons_zero, List.set_cons_succ, Nat.zero_add, Nat.reduceAdd]
            simp [execOp, Act.eval, go_sem, h2]
          · refine OgStep.pure ?_ ?_
            · rfl
            intro u W hS hp
            have R0 := (oneX_below HX.out hS).1
            have R1 := (oneX_below HX.out hS).2.1
            refine ⟨.agg #[.int .u32 a, .slice A5 (kp G ⟨sf, x0, x1, x2, x3, x4, x5, st⟩).length c5], ?_, rfl⟩
            simp only [ogMk, Act.put, List.setIfInBounds_toArray, List.set_cons_zero, List.set_cons_succ, Nat.zero_add, Nat.reduceAdd]
            simp [execOp, Act.eval, go_sem, R0, R1]
          · refine OgStep.made ?_ ?_
            · rfl
            intro u W hS hp
            have h4 : u 4 = .agg #[.int .u32 a, .slice A5 (kp G ⟨sf, x0, x1, x2, x3, x4, x5, st⟩).length c5] := hp ⟨4, .data⟩ (by simp) rfl
            refine ⟨.slice (some ⟨W.heap.size, 0, none⟩) 1 1, _, ?_, (Below.refl _ W).alloc (Nat.le_refl _) _, HK1.out W (oneX_below HX.out hS).2.2⟩
            simp only [ogMk, Act.put, List.setIfInBounds_toArray, List.set_cons_zero, List.set_cons_succ, Nat.zero_add, Nat.reduceAdd]
            simp [execOp, Act.eval, go_sem, h4]
          · refine OgStep.pure ?_ ?_
            · rfl
            intro u W hS hp
            refine ⟨.slice (dA 2 A cap (P)) (L - (P)) (cap - (P)), ?_, rfl⟩
            simp only [ogMk, Act.put, List.setIfInBounds_toArray, List.set_cons_zero, List.set_cons_succ, Nat.zero_add, Nat.reduceAdd]
            simp [execOp, Act.eval, go_sem]
          · refine OgStep.calls ?_ ?_
            · rfl
            intro u W hS hp
            have h6 : u 6 = .slice (dA 2 A cap (P)) (L - (P)) (cap - (P)) := hp ⟨6, .data⟩ (by simp) rfl
            refine ⟨26, #[.slice (dA 2 A cap (P)) (L - (P)) (cap - (P))], ?_, calls_kF (HC2.out W (HB4.out.trans (hS.mono HB4.out.size))) rfl⟩
            simp only [ogMk, Act.put, List.setIfInBounds_toArray, List.set_cons_zero, List.set_cons_succ, Nat.zero_add, Nat.reduceAdd]
            simp [execOp, Act.eval, go_sem, h6]
          · refine OgStep.made ?_ ?_
            · rfl
            intro u W hS hp
            obtain ⟨A3, c3, h3, _, _, hR3⟩ : kF T1 (u 3) W := hp ⟨3, .data⟩ (by simp) rfl
            obtain ⟨A5, c5, h5, _, _, hR5⟩ : kF [⟨a, (kp G ⟨sf, x0, x1, x2, x3, x4, x5, st⟩)⟩] (u 5) W := hp ⟨5, .data⟩ (by simp) rfl
            obtain ⟨A7, c7, h7, _, _, hR7⟩ : kF T2 (u 7) W := hp ⟨7, .data⟩ (by simp) rfl
            refine ⟨.slice (some ⟨W.heap.size, 0, none⟩) 3 3, _, ?_, (Below.refl _ W).alloc (Nat.le_refl _) _, HQ.out W A3 A5 A7 c3 c5 c7 hR3 hR5 hR7⟩
            simp only [ogMk, Act.put, List.setIfInBounds_toArray, List.set_cons_zero, List.set_cons_succ, Nat.zero_add, Nat.reduceAdd]
            rw [h3, h5, h7]
            simp [execOp, Act.eval, go_sem]
          · refine OgStep.calls ?_ ?_
            · rfl
            intro u W hS hp
            obtain ⟨b, qs, e8, hl8, hPm, hct, hin⟩ : qK R (u 8) W := hp ⟨8, .data⟩ (by simp) rfl
            refine ⟨25, #[.slice (some ⟨b, 0, none⟩) 3 3], ?_, calls_kF (concat_k hl8 hPm hct hin HRL.out) rfl⟩
            simp only [ogMk, Act.put, List.setIfInBounds_toArray, List.set_cons_zero, List.set_cons_succ, Nat.zero_add, Nat.reduceAdd]
            rw [e8]
            simp [execOp, Act.eval, go_sem]
          · refine OgStep.pure ?_ ?_
            · rfl
            intro u W hS hp
            have h9 : kF R (u 9) W := hp ⟨9, .data⟩ (by simp) rfl
            refine ⟨u 9, ?_, h9⟩
            simp only [ogMk, Act.put, List.setIfInBounds_toArray, List.set_cons_zero, List.set_cons_succ, Nat.zero_add, Nat.reduceAdd]
            simp [execOp, Act.eval, go_sem]
          · refine OgStep.pure ?_ ?_
            · rfl
            intro u W hS hp
            refine ⟨.int .i64 0, ?_, rfl⟩
            simp only [ogMk, Act.put, List.setIfInBounds_toArray, List.set_cons_zero, List.set_cons_succ, Nat.zero_add, Nat.reduceAdd]
            simp [execOp, Act.eval, go_sem]
        · intro u W hS hF'
          have hF10 : kF R (u 10) W := hF' 10 (by decide)
          have hF := hF'
          have e0 : u 0 = .slice A L cap := hF 0 (by decide)
          have e1 : u 1 = .int .i64 (P : Int) := hF 1 (by decide)
          have e2 : u 2 = .slice A P cap := hF 2 (by decide)
          have e4 : u 4 = .agg #[.int .u32 a, .slice A5 (kp G ⟨sf, x0, x1, x2, x3, x4, x5, st⟩).length c5] := hF 4 (by decide)
          have e6 : u 6 = .slice (dA 2 A cap (P)) (L - (P)) (cap - (P)) := hF 6 (by decide)
          have e11 : u 11 = .int .i64 0 := hF 11 (by decide)
          simp only [ogMk, Act.put, List.setIfInBounds_toArray, List.set_cons_zero, List.set_cons_succ, Nat.zero_add, Nat.reduceAdd]
          rw [e0, e1, e2, e4, e6, e11]
          clear hF' e0 e1 e2 e4 e6 e11 hF
          go_wp2_with fail
          go_ret2
          exact ⟨_, rfl, HB4.out.trans (hS.mono HB4.out.size), hF10⟩
    · replace h1 := h1 rfl
      clear h2
      go_enter Try.func11, Try.ntmps11
      go_wp2_with fail
      refine HM.out.mono ?_
      rintro e w1 ⟨rfl, rfl⟩
      go_wp2_with fail
      refine HLA.out.mono ?_
      rintro e w1 ⟨rfl, n1, rfl⟩
      go_wp2_with fail
      refine (HPL.out n1).mono ?_
      rintro e w2 ⟨rfl, n2, hw2⟩
      have HB2 := Lib.hid (show Below w.heap.size w w2 from hw2 ▸ bdrewN (bdrewN HBB0.out n1) n2)
      have HBX := Lib.hid (show Rw eS w2 (some ⟨w.heap.size, 0, none⟩) [⟨sf, x0, x1, x2, x3, x4, x5, st⟩] from hw2 ▸ (HBX0.out.drewN n1).drewN n2)
      clear hw2 HM HLA HPL HBX0
      go_wp2_with fail
      refine wp_region_below_end (by simp) [fx (.int .u32 a), fx (.slice A L cap), fx (.int .u32 a), sF G, fx (.agg #[.int .i64 sf, .int .u8 x0, .int .u8 x1, .int .u8 x2, .int .u8 x3, .int .u8 x4, .int .u8 x5, .int .i64 st]), sF (kp G ⟨sf, x0, x1, x2, x3, x4, x5, st⟩), bF a (kp G ⟨sf, x0, x1, x2, x3, x4, x5, st⟩), zF w.heap.size]
        (by kernel_rfl) (by kernel_rfl) (by kernel_rfl) (by kernel_rfl) ?_ ?_ ?_
      · simp only [List.mem_cons, List.not_mem_nil, or_false]
        rintro φ (rfl | rfl | rfl | rfl | rfl | rfl | rfl | rfl)
        all_goals first | exact stable_fx _ | exact stable_fr _ _ | exact stable_sF _ | exact stable_bF _ _ | exact stable_zF _
      · refine OgSteps.cons ?_ (OgSteps.cons ?_ (OgSteps.cons ?_ (OgSteps.cons ?_ (OgSteps.cons ?_ (OgSteps.cons ?_ (OgSteps.cons ?_ (OgSteps.cons ?_ (OgSteps.nil))))))))
        · refine OgStep.pure ?_ ?_
          · rfl
          intro u W hS hp
          refine ⟨.int .u32 a, ?_, rfl⟩
          simp only [ogMk, Act.put, List.setIfInBounds_toArray, List.set_cons_zero, List.set_cons_succ, Nat.zero_add, Nat.reduceAdd]
          simp [execOp, Act.eval, go_sem]
        · refine OgStep.pure ?_ ?_
          · rfl
          intro u W hS hp
          refine ⟨.slice A L cap, ?_, rfl⟩
          simp only [ogMk, Act.put, List.setIfInBounds_toArray, List.set_cons_zero, List.set_cons_succ, Nat.zero_add, Nat.reduceAdd]
          simp [execOp, Act.eval, go_sem]
        · refine OgStep.pure ?_ ?_
          · rfl
          intro u W hS hp
          refine ⟨.int .u32 a, ?_, rfl⟩
          simp only [ogMk, Act.put, List.setIfInBounds_toArray, List.set_cons_zero, List.set_cons_succ, Nat.zero_add, Nat.reduceAdd]
          simp [execOp, Act.eval, go_sem]
        · refine OgStep.calls ?_ ?_
          · rfl
          intro u W hS hp
          have h1 : u 1 = .slice A L cap := hp ⟨1, .data⟩ (by simp) rfl
          have h2 : u 2 = .int .u32 a := hp ⟨2, .data⟩ (by simp) rfl
          refine ⟨14, #[.slice A L cap, .int .u32 a], ?_, calls_sF (HOF.out W (HB2.out.trans (hS.mono HB2.out.size))) rfl⟩
          simp only [ogMk, Act.put, List.setIfInBounds_toArray, List.set_cons_zero, List.set_cons_succ, Nat.zero_add, Nat.reduceAdd]
          simp [execOp, Act.eval, go_sem, h1, h2]
        · refine OgStep.pure ?_ ?_
          · rfl
          intro u W hS hp
          obtain ⟨R0, R1, R2, R3, R4, R5, R6, R7⟩ := s_c8 (HBX.out.below hS)
          refine ⟨.agg #[.int .i64 sf, .int .u8 x0, .int .u8 x1, .int .u8 x2, .int .u8 x3, .int .u8 x4, .int .u8 x5, .int .i64 st], ?_, rfl⟩
          simp only [ogMk, Act.put, List.setIfInBounds_toArray, List.set_cons_zero, List.set_cons_succ, Nat.zero_add, Nat.reduceAdd]
          simp [execOp, Act.eval, go_sem, R0, R1, R2, R3, R4, R5, R6, R7]
        · refine OgStep.calls ?_ ?_
          · rfl
          intro u W hS hp
          obtain ⟨A3, c3, h3, hc3, _, hR3⟩ : sF G (u 3) W := hp ⟨3, .data⟩ (by simp) rfl
          have h4 : u 4 = .agg #[.int .i64 sf, .int .u8 x0, .int .u8 x1, .int .u8 x2, .int .u8 x3, .int .u8 x4, .int .u8 x5, .int .i64 st] := hp ⟨4, .data⟩ (by simp) rfl
          refine ⟨16, #[.slice A3 G.length c3, .agg #[.int .i64 sf, .int .u8 x0, .int .u8 x1, .int .u8 x2, .int .u8 x3, .int .u8 x4, .int .u8 x5, .int .i64 st]], ?_, calls_sF (HKP.out W A3 c3 hR3 hc3) rfl⟩
          simp only [ogMk, Act.put, List.setIfInBounds_toArray, List.set_cons_zero, List.set_cons_succ, Nat.zero_add, Nat.reduceAdd]
          rw [h3, h4]
          simp [execOp, Act.eval, go_sem]
        · refine OgStep.pure ?_ ?_
          · rfl
          intro u W hS hp
          obtain ⟨A5, c5, h5, hc5, hm5, hR5⟩ : sF (kp G ⟨sf, x0, x1, x2, x3, x4, x5, st⟩) (u 5) W := hp ⟨5, .data⟩ (by simp) rfl
          have h0 : u 0 = .int .u32 a := hp ⟨0, .data⟩ (by simp) rfl
          refine ⟨.agg #[.int .u32 a, .slice A5 (kp G ⟨sf, x0, x1, x2, x3, x4, x5, st⟩).length c5], ?_, ⟨A5, c5, rfl, hc5, hm5, hR5⟩⟩
          simp only [ogMk, Act.put, List.setIfInBounds_toArray, List.set_cons_zero, List.set_cons_succ, Nat.zero_add, Nat.reduceAdd]
          rw [h0, h5]
          simp [execOp, Act.eval, go_sem]
        · refine OgStep.made ?_ ?_
          · rfl
          intro u W hS hp
          refine ⟨.pointer (some ⟨W.heap.size, 0, none⟩), _, ?_, (Below.refl _ W).alloc (Nat.le_refl _) (.cells #[.int .u32 0, .slice none 0 0] 53), ⟨W.heap.size, rfl, Nat.le_trans HB2.out.size hS.size, by simp, by simp, by simp, fun j => by simp⟩⟩
          simp only [ogMk, Act.put, List.setIfInBounds_toArray, List.set_cons_zero, List.set_cons_succ, Nat.zero_add, Nat.reduceAdd]
          simp [execOp, Act.eval, go_sem]
      · intro u W hS hF
        have hF' := hF
        have e0 : u 0 = .int .u32 a := hF 0 (by decide)
        have e1 : u 1 = .slice A L cap := hF 1 (by decide)
        have e2 : u 2 = .int .u32 a := hF 2 (by decide)
        have e4 : u 4 = .agg #[.int .i64 sf, .int .u8 x0, .int .u8 x1, .int .u8 x2, .int .u8 x3, .int .u8 x4, .int .u8 x5, .int .i64 st] := hF 4 (by decide)
        simp only [ogMk, Act.put, List.setIfInBounds_toArray, List.set_cons_zero, List.set_cons_succ, Nat.zero_add, Nat.reduceAdd]
        rw [e0, e1, e2, e4]
        clear e0 e1 e2 e4 hF
        obtain ⟨A5, c5, e6, hc5, hm5, hR5⟩ : bF a (kp G ⟨sf, x0, x1, x2, x3, x4, x5, st⟩) (u 6) W := hF' 6 (by decide)
        obtain ⟨b, e7, hb1, hb2, hb3, hb4, hb5⟩ : zF w.heap.size (u 7) W := hF' 7 (by decide)
        obtain ⟨A3, c3, e3, _⟩ : sF G (u 3) W := hF' 3 (by decide)
        obtain ⟨A4, c4, e5, _⟩ : sF (kp G ⟨sf, x0, x1, x2, x3, x4, x5, st⟩) (u 5) W := hF' 5 (by decide)
        rw [e3, e5, e6, e7]
        have HW := Lib.hid (HB2.out.trans (hS.mono HB2.out.size))
        clear hF' e3 e5 e6 e7
        have hf0 := hb5 0
        have hf1 := hb5 1
        have HB4 := Lib.hid (show Below w.heap.size w ((W.setCell ⟨b, 0, none⟩ (.int .u32 a)).setCell ⟨b, 1, none⟩ (.slice A5 (kp G ⟨sf, x0, x1, x2, x3, x4, x5, st⟩).length c5)) from (HW.out.setCell hb1 _).setCell hb1 _)
        have HX := Lib.hid (show oneX b a A5 c5 (kp G ⟨sf, x0, x1, x2, x3, x4, x5, st⟩).length (kp G ⟨sf, x0, x1, x2, x3, x4, x5, st⟩) ((W.setCell ⟨b, 0, none⟩ (.int .u32 a)).setCell ⟨b, 1, none⟩ (.slice A5 (kp G ⟨sf, x0, x1, x2, x3, x4, x5, st⟩).length c5)) from one_stored hb2 hb3 hb4 hR5)
        have HK1 := Lib.hid fun W (hW : Rw eS W A5 (kp G ⟨sf, x0, x1, x2, x3, x4, x5, st⟩)) => k_one W ⟨a, A5, c5, kp G ⟨sf, x0, x1, x2, x3, x4, x5, st⟩⟩ ⟨HA.out.1, HA.out.2, hW, hc5, hm5⟩
        clear hR5 hS hb5 hm5 hc5 HBX
        go_wp2_with fail
        refine wp_region_below [fx (.slice A L cap), fx (.int .i64 (P : Int)), fx (.slice A P cap), kF T1, fx (.agg #[.int .u32 a, .slice A5 (kp G ⟨sf, x0, x1, x2, x3, x4, x5, st⟩).length c5]), kF [⟨a, (kp G ⟨sf, x0, x1, x2, x3, x4, x5, st⟩)⟩], fx (.slice (dA 2 A cap (P)) (L - (P)) (cap - (P))), kF T2, qK R, kF R, kF R, fx (.int .i64 0)]
          (by kernel_rfl) (by kernel_rfl) (by kernel_rfl) ?_ ?_ ?_
        · simp only [List.mem_cons, List.not_mem_nil, or_false]
          rintro φ (rfl | rfl | rfl | rfl | rfl | rfl | rfl | rfl | rfl | rfl | rfl | rfl)
          all_goals first | exact stable_fx _ | exact stable_fr _ _ | exact stable_kF _ | exact stable_qK _
        · refine OgSteps.cons ?_ (OgSteps.cons ?_ (OgSteps.cons ?_ (OgSteps.cons ?_ (OgSteps.cons ?_ (OgSteps.cons ?_ (OgSteps.cons ?_ (OgSteps.cons ?_ (OgSteps.cons ?_ (OgSteps.cons ?_ (OgSteps.cons ?_ (OgSteps.cons ?_ (OgSteps.nil))))))))))))
          · refine OgStep.pure ?_ ?_
            · rfl
            intro u W hS hp
            refine ⟨.slice A L cap, ?_, rfl⟩
            simp only [ogMk, Act.put, List.setIfInBounds_toArray, List.set_cons_zero, List.set_cons_succ, Nat.zero_add, Nat.reduceAdd]
            simp [execOp, Act.eval, go_sem]
          · refine OgStep.pure ?_ ?_
            · rfl
            intro u W hS hp
            refine ⟨.int .i64 (P : Int), ?_, rfl⟩
            simp only [ogMk, Act.put, List.setIfInBounds_toArray, List.set_cons_zero, List.set_cons_succ, Nat.zero_add, Nat.reduceAdd]
            simp [execOp, Act.eval, go_sem]
          · refine OgStep.pure ?_ ?_
            · rfl
            intro u W hS hp
            have h0 : u 0 = .slice A L cap := hp ⟨0, .data⟩ (by simp) rfl
            have h1 : u 1 = .int .i64 (P : Int) := hp ⟨1, .data⟩ (by simp) rfl
            have R := HSH.out W
            refine ⟨.slice A P cap, ?_, rfl⟩
            simp only [ogMk, Act.put, List.setIfInBounds_toArray, List.set_cons_zero, List.set_cons_succ, Nat.zero_add, Nat.reduceAdd]
            simp [execOp, Act.eval, go_sem, h0, h1, R]
          · refine OgStep.calls ?_ ?_
            · rfl
            intro u W hS hp
            have h2 : u 2 = .slice A P cap := hp ⟨2, .data⟩ (by simp) rfl
            refine ⟨26, #[.slice A P cap], ?_, calls_kF (HC1.out W (HB4.out.trans (hS.mono HB4.out.size))) rfl⟩
            simp only [ogMk, Act.put, List.setIfInBounds_toArray, List.set_cons_zero, List.set_cons_succ, Nat.zero_add, Nat.reduceAdd]
            simp [execOp, Act.eval, go_sem, h2]
          · refine OgStep.pure ?_ ?_
            · rfl
            intro u W hS hp
            have R0 := (oneX_below HX.out hS).1
            have R1 := (oneX_below HX.out hS).2.1
            refine ⟨.agg #[.int .u32 a, .slice A5 (kp G ⟨sf, x0, x1, x2, x3, x4, x5, st⟩).length c5], ?_, rfl⟩
            simp only [ogMk, Act.put, List.setIfInBounds_toArray, List.set_cons_zero, List.set_cons_succ, Nat.zero_add, Nat.reduceAdd]
            simp [execOp, Act.eval, go_sem, R0, R1]
          · refine OgStep.made ?_ ?_
            · rfl
            intro u W hS hp
            have h4 : u 4 = .agg #[.int .u32 a, .slice A5 (kp G ⟨sf, x0, x1, x2, x3, x4, x5, st⟩).length c5] := hp ⟨4, .data⟩ (by simp) rfl
            refine ⟨.slice (some ⟨W.heap.size, 0, none⟩) 1 1, _, ?_, (Below.refl _ W).alloc (Nat.le_refl _) _, HK1.out W (oneX_below HX.out hS).2.2⟩
            simp only [ogMk, Act.put, List.setIfInBounds_toArray, List.set_cons_zero, List.set_cons_succ, Nat.zero_add, Nat.reduceAdd]
            simp [execOp, Act.eval, go_sem, h4]
          · refine OgStep.pure ?_ ?_
            · rfl
            intro u W hS hp
            refine ⟨.slice (dA 2 A cap (P)) (L - (P)) (cap - (P)), ?_, rfl⟩
            simp only [ogMk, Act.put, List.setIfInBounds_toArray, List.set_cons_zero, List.set_cons_succ, Nat.zero_add, Nat.reduceAdd]
            simp [execOp, Act.eval, go_sem]
          · refine OgStep.calls ?_ ?_
            · rfl
            intro u W hS hp
            have h6 : u 6 = .slice (dA 2 A cap (P)) (L - (P)) (cap - (P)) := hp ⟨6, .data⟩ (by simp) rfl
            refine ⟨26, #[.slice (dA 2 A cap (P)) (L - (P)) (cap - (P))], ?_, calls_kF (HC2.out W (HB4.out.trans (hS.mono HB4.out.size))) rfl⟩
            simp only [ogMk, Act.put, List.setIfInBounds_toArray, List.set_cons_zero, List.set_cons_succ, Nat.zero_add, Nat.reduceAdd]
            simp [execOp, Act.eval, go_sem, h6]
          · refine OgStep.made ?_ ?_
            · rfl
            intro u W hS hp
            obtain ⟨A3, c3, h3, _, _, hR3⟩ : kF T1 (u 3) W := hp ⟨3, .data⟩ (by simp) rfl
            obtain ⟨A5, c5, h5, _, _, hR5⟩ : kF [⟨a, (kp G ⟨sf, x0, x1, x2, x3, x4, x5, st⟩)⟩] (u 5) W := hp ⟨5, .data⟩ (by simp) rfl
            obtain ⟨A7, c7, h7, _, _, hR7⟩ : kF T2 (u 7) W := hp ⟨7, .data⟩ (by simp) rfl
            refine ⟨.slice (some ⟨W.heap.size, 0, none⟩) 3 3, _, ?_, (Below.refl _ W).alloc (Nat.le_refl _) _, HQ.out W A3 A5 A7 c3 c5 c7 hR3 hR5 hR7⟩
            simp only [ogMk, Act.put, List.setIfInBounds_toArray, List.set_cons_zero, List.set_cons_succ, Nat.zero_add, Nat.reduceAdd]
            rw [h3, h5, h7]
            simp [execOp, Act.eval, go_sem]
          · refine OgStep.calls ?_ ?_
            · rfl
            intro u W hS hp
            obtain ⟨b, qs, e8, hl8, hPm, hct, hin⟩ : qK R (u 8) W := hp ⟨8, .data⟩ (by simp) rfl
            refine ⟨25, #[.slice (some ⟨b, 0, none⟩) 3 3], ?_, calls_kF (concat_k hl8 hPm hct hin HRL.out) rfl⟩
            simp only [ogMk, Act.put, List.setIfInBounds_toArray, List.set_cons_zero, List.set_cons_succ, Nat.zero_add, Nat.reduceAdd]
            rw [e8]
            simp [execOp, Act.eval, go_sem]
          · refine OgStep.pure ?_ ?_
            · rfl
            intro u W hS hp
            have h9 : kF R (u 9) W := hp ⟨9, .data⟩ (by simp) rfl
            refine ⟨u 9, ?_, h9⟩
            simp only [ogMk, Act.put, List.setIfInBounds_toArray, List.set_cons_zero, List.set_cons_succ, Nat.zero_add, Nat.reduceAdd]
            simp [execOp, Act.eval, go_sem]
          · refine OgStep.pure ?_ ?_
            · rfl
            intro u W hS hp
            refine ⟨.int .i64 0, ?_, rfl⟩
            simp only [ogMk, Act.put, List.setIfInBounds_toArray, List.set_cons_zero, List.set_cons_succ, Nat.zero_add, Nat.reduceAdd]
            simp [execOp, Act.eval, go_sem]
        · intro u W hS hF'
          have hF10 : kF R (u 10) W := hF' 10 (by decide)
          have hF := hF'
          have e0 : u 0 = .slice A L cap := hF 0 (by decide)
          have e1 : u 1 = .int .i64 (P : Int) := hF 1 (by decide)
          have e2 : u 2 = .slice A P cap := hF 2 (by decide)
          have e4 : u 4 = .agg #[.int .u32 a, .slice A5 (kp G ⟨sf, x0, x1, x2, x3, x4, x5, st⟩).length c5] := hF 4 (by decide)
          have e6 : u 6 = .slice (dA 2 A cap (P)) (L - (P)) (cap - (P)) := hF 6 (by decide)
          have e11 : u 11 = .int .i64 0 := hF 11 (by decide)
          simp only [ogMk, Act.put, List.setIfInBounds_toArray, List.set_cons_zero, List.set_cons_succ, Nat.zero_add, Nat.reduceAdd]
          rw [e0, e1, e2, e4, e6, e11]
          clear hF' e0 e1 e2 e4 e6 e11 hF
          go_wp2_with fail
          go_ret2
          exact ⟨_, rfl, HB4.out.trans (hS.mono HB4.out.size), hF10⟩
  · replace HQ := Lib.hid (HQ.out _ HD.out)
    replace HC2 := Lib.hid (HC2.out (lo xs a + 1))
    simp only [Bool.false_eq_true, if_false, if_true, Nat.add_zero] at HQ HPL HD
    generalize xs.take (lo xs a) = T1 at *
    generalize xs.drop (lo xs a + 1) = T2 at *
    generalize xs.length = L at *
    generalize lo xs a = P at *
    replace hI := hI rfl
    replace HSL1 := HSL1 rfl
    simp only [Int.natCast_add, Int.natCast_one] at HSL1
    generalize any G = B1 at *
    generalize tk G = K1 at *
    obtain ⟨sf, x0, x1, x2, x3, x4, x5, st⟩ := s
    simp only [sv, Sx] at HM HBB0 HLA HPL HBX0 h0 h1 HKP HKK HQ ⊢
    cases B1
    · replace h2 := h2 rfl
      clear h1
      go_enter Try.func11, Try.ntmps11
      go_wp2_with fail
      refine HM.out.mono ?_
      rintro e w1 ⟨rfl, rfl⟩
      go_wp2_with fail
      refine HLA.out.mono ?_
      rintro e w1 ⟨rfl, n1, rfl⟩
      go_wp2_with fail
      refine (HPL.out n1).mono ?_
      rintro e w2 ⟨rfl, n2, hw2⟩
      have HB2 := Lib.hid (show Below w.heap.size w w2 from hw2 ▸ bdrewN (bdrewN HBB0.out n1) n2)
      have HBX := Lib.hid (show Rw eS w2 (some ⟨w.heap.size, 0, none⟩) [⟨sf, x0, x1, x2, x3, x4, x5, st⟩] from hw2 ▸ (HBX0.out.drewN n1).drewN n2)
      clear hw2 HM HLA HPL HBX0
      go_wp2_with fail
      refine wp_region_below_end (by simp) [fx (.int .u32 a), fx (.slice A L cap), fx (.int .u32 a), sF G, fx (.agg #[.int .i64 sf, .int .u8 x0, .int .u8 x1, .int .u8 x2, .int .u8 x3, .int .u8 x4, .int .u8 x5, .int .i64 st]), sF (kp G ⟨sf, x0, x1, x2, x3, x4, x5, st⟩), bF a (kp G ⟨sf, x0, x1, x2, x3, x4, x5, st⟩), zF w.heap.size]
        (by kernel_rfl) (by kernel_rfl) (by kernel_rfl) (by kernel_rfl) ?_ ?_ ?_
      · simp only [List.mem_cons, List.not_mem_nil, or_false]
        rintro φ (rfl | rfl | rfl | rfl | rfl | rfl | rfl | rfl)
        all_goals first | exact stable_fx _ | exact stable_fr _ _ | exact stable_sF _ | exact stable_bF _ _ | exact stable_zF _
      · refine OgSteps.cons ?_ (OgSteps.cons ?_ (OgSteps.cons ?_ (OgSteps.cons ?_ (OgSteps.cons ?_ (OgSteps.cons ?_ (OgSteps.cons ?_ (OgSteps.cons ?_ (OgSteps.nil))))))))
        · refine OgStep.pure ?_ ?_
          · rfl
          intro u W hS hp
          refine ⟨.int .u32 a, ?_, rfl⟩
          simp only [ogMk, Act.put, List.setIfInBounds_toArray, List.set_cons_zero, List.set_cons_succ, Nat.zero_add, Nat.reduceAdd]
          simp [execOp, Act.eval, go_sem]
        · refine OgStep.pure ?_ ?_
          · rfl
          intro u W hS hp
          refine ⟨.slice A L cap, ?_, rfl⟩
          simp only [ogMk, Act.put, List.setIfInBounds_toArray, List.set_cons_zero, List.set_cons_succ, Nat.zero_add, Nat.reduceAdd]
          simp [execOp, Act.eval, go_sem]
        · refine OgStep.pure ?_ ?_
          · rfl
          intro u W hS hp
          refine ⟨.int .u32 a, ?_, rfl⟩
          simp only [ogMk, Act.put, List.setIfInBounds_toArray, List.set_cons_zero, List.set_cons_succ, Nat.zero_add, Nat.reduceAdd]
          simp [execOp, Act.eval, go_sem]
        · refine OgStep.calls ?_ ?_
          · rfl
          intro u W hS hp
          have h1 : u 1 = .slice A L cap := hp ⟨1, .data⟩ (by simp) rfl
          have h2 : u 2 = .int .u32 a := hp ⟨2, .data⟩ (by simp) rfl
          refine ⟨14, #[.slice A L cap, .int .u32 a], ?_, calls_sF (HOF.out W (HB2.out.trans (hS.mono HB2.out.size))) rfl⟩
          simp only [ogMk, Act.put, List.setIfInBounds_toArray, List.set_cons_zero, List.set_cons_succ, Nat.zero_add, Nat.reduceAdd]
          simp [execOp, Act.eval, go_sem, h1, h2]
        · refine OgStep.pure ?_ ?_
          · rfl
          intro u W hS hp
          obtain ⟨R0, R1, R2, R3, R4, R5, R6, R7⟩ := s_c8 (HBX.out.below hS)
          refine ⟨.agg #[.int .i64 sf, .int .u8 x0, .int .u8 x1, .int .u8 x2, .int .u8 x3, .int .u8 x4, .int .u8 x5, .int .i64 st], ?_, rfl⟩
          simp only [ogMk, Act.put, List.setIfInBounds_toArray, List.set_cons_zero, List.set_cons_succ, Nat.zero_add, Nat.reduceAdd]
          simp [execOp, Act.eval, go_sem, R0, R1, R2, R3, R4, R5, R6, R7]
        · refine OgStep.calls ?_ ?_
          · rfl
          intro u W hS hp
          obtain ⟨A3, c3, h3, hc3, _, hR3⟩ : sF G (u 3) W := hp ⟨3, .data⟩ (by simp) rfl
          have h4 : u 4 = .agg #[.int .i64 sf, .int .u8 x0, .int .u8 x1, .int .u8 x2, .int .u8 x3, .int .u8 x4, .int .u8 x5, .int .i64 st] := hp ⟨4, .data⟩ (by simp) rfl
          refine ⟨16, #[.slice A3 G.length c3, .agg #[.int .i64 sf, .int .u8 x0, .int .u8 x1, .int .u8 x2, .int .u8 x3, .int .u8 x4, .int .u8 x5, .int .i64 st]], ?_, calls_sF (HKP.out W A3 c3 hR3 hc3) rfl⟩
          simp only [ogMk, Act.put, List.setIfInBounds_toArray, List.set_cons_zero, List.set_cons_succ, Nat.zero_add, Nat.reduceAdd]
          rw [h3, h4]
          simp [execOp, Act.eval, go_sem]
        · refine OgStep.pure ?_ ?_
          · rfl
          intro u W hS hp
          obtain ⟨A5, c5, h5, hc5, hm5, hR5⟩ : sF (kp G ⟨sf, x0, x1, x2, x3, x4, x5, st⟩) (u 5) W := hp ⟨5, .data⟩ (by simp) rfl
          have h0 : u 0 = .int .u32 a := hp ⟨0, .data⟩ (by simp) rfl
          refine ⟨.agg #[.int .u32 a, .slice A5 (kp G ⟨sf, x0, x1, x2, x3, x4, x5, st⟩).length c5], ?_, ⟨A5, c5, rfl, hc5, hm5, hR5⟩⟩
          simp only [ogMk, Act.put, List.setIfInBounds_toArray, List.set_cons_zero, List.set_cons_succ, Nat.zero_add, Nat.reduceAdd]
          rw [h0, h5]
          simp [execOp, Act.eval, go_sem]
        · refine OgStep.made ?_ ?_
          · rfl
          intro u W hS hp
          refine ⟨.pointer (some ⟨W.heap.size, 0, none⟩), _, ?_, (Below.refl _ W).alloc (Nat.le_refl _) (.cells #[.int .u32 0, .slice none 0 0] 53), ⟨W.heap.size, rfl, Nat.le_trans HB2.out.size hS.size, by simp, by simp, by simp, fun j => by simp⟩⟩
          simp only [ogMk, Act.put, List.setIfInBounds_toArray, List.set_cons_zero, List.set_cons_succ, Nat.zero_add, Nat.reduceAdd]
          simp [execOp, Act.eval, go_sem]
      · intro u W hS hF
        have hF' := hF
        have e0 : u 0 = .int .u32 a := hF 0 (by decide)
        have e1 : u 1 = .slice A L cap := hF 1 (by decide)
        have e2 : u 2 = .int .u32 a := hF 2 (by decide)
        have e4 : u 4 = .agg #[.int .i64 sf, .int .u8 x0, .int .u8 x1, .int .u8 x2, .int .u8 x3, .int .u8 x4, .int .u8 x5, .int .i64 st] := hF 4 (by decide)
        simp only [ogMk, Act.put, List.setIfInBounds_toArray, List.set_cons_zero, List.set_cons_succ, Nat.zero_add, Nat.reduceAdd]
        rw [e0, e1, e2, e4]
        clear e0 e1 e2 e4 hF
        obtain ⟨A5, c5, e6, hc5, hm5, hR5⟩ : bF a (kp G ⟨sf, x0, x1, x2, x3, x4, x5, st⟩) (u 6) W := hF' 6 (by decide)
        obtain ⟨b, e7, hb1, hb2, hb3, hb4, hb5⟩ : zF w.heap.size (u 7) W := hF' 7 (by decide)
        obtain ⟨A3, c3, e3, _⟩ : sF G (u 3) W := hF' 3 (by decide)
        obtain ⟨A4, c4, e5, _⟩ : sF (kp G ⟨sf, x0, x1, x2, x3, x4, x5, st⟩) (u 5) W := hF' 5 (by decide)
        rw [e3, e5, e6, e7]
        have HW := Lib.hid (HB2.out.trans (hS.mono HB2.out.size))
        clear hF' e3 e5 e6 e7
        have hf0 := hb5 0
        have hf1 := hb5 1
        have HB4 := Lib.hid (show Below w.heap.size w ((W.setCell ⟨b, 0, none⟩ (.int .u32 a)).setCell ⟨b, 1, none⟩ (.slice A5 (kp G ⟨sf, x0, x1, x2, x3, x4, x5, st⟩).length c5)) from (HW.out.setCell hb1 _).setCell hb1 _)
        have HX := Lib.hid (show oneX b a A5 c5 (kp G ⟨sf, x0, x1, x2, x3, x4, x5, st⟩).length (kp G ⟨sf, x0, x1, x2, x3, x4, x5, st⟩) ((W.setCell ⟨b, 0, none⟩ (.int .u32 a)).setCell ⟨b, 1, none⟩ (.slice A5 (kp G ⟨sf, x0, x1, x2, x3, x4, x5, st⟩).length c5)) from one_stored hb2 hb3 hb4 hR5)
        have HK1 := Lib.hid fun W (hW : Rw eS W A5 (kp G ⟨sf, x0, x1, x2, x3, x4, x5, st⟩)) => k_one W ⟨a, A5, c5, kp G ⟨sf, x0, x1, x2, x3, x4, x5, st⟩⟩ ⟨HA.out.1, HA.out.2, hW, hc5, hm5⟩
        clear hR5 hS hb5 hm5 hc5 HBX
        go_wp2_with fail
        refine wp_region_below [fx (.slice A L cap), fx (.int .i64 (P : Int)), fx (.slice A P cap), kF T1, fx (.agg #[.int .u32 a, .slice A5 (kp G ⟨sf, x0, x1, x2, x3, x4, x5, st⟩).length c5]), kF [⟨a, (kp G ⟨sf, x0, x1, x2, x3, x4, x5, st⟩)⟩], fx (.slice (dA 2 A cap (P + 1)) (L - (P + 1)) (cap - (P + 1))), kF T2, qK R, kF R, kF R, fx (.int .i64 0)]
          (by kernel_rfl) (by kernel_rfl) (by kernel_rfl) ?_ ?_ ?_
        · simp only [List.mem_cons, List.not_mem_nil, or_false]
          rintro φ (rfl | rfl | rfl | rfl | rfl | rfl | rfl | rfl | rfl | rfl | rfl | rfl)
          all_goals first | exact stable_fx _ | exact stable_fr _ _ | exact stable_kF _ | exact stable_qK _
        · refine OgSteps.cons ?_ (OgSteps.cons ?_ (OgSteps.cons ?_ (OgSteps.cons ?_ (OgSteps.cons ?_ (OgSteps.cons ?_ (OgSteps.cons ?_ (OgSteps.cons ?_ (OgSteps.cons ?_ (OgSteps.cons ?_ (OgSteps.cons ?_ (OgSteps.cons ?_ (OgSteps.nil))))))))))))
          · refine OgStep.pure ?_ ?_
            · rfl
            intro u W hS hp
            refine ⟨.slice A L cap, ?_, rfl⟩
            simp only [ogMk, Act.put, List.setIfInBounds_toArray, List.set_cons_zero, List.set_cons_succ, Nat.zero_add, Nat.reduceAdd]
            simp [execOp, Act.eval, go_sem]
          · refine OgStep.pure ?_ ?_
            · rfl
            intro u W hS hp
            refine ⟨.int .i64 (P : Int), ?_, rfl⟩
            simp only [ogMk, Act.put, List.setIfInBounds_toArray, List.set_cons_zero, List.set_cons_succ, Nat.zero_add, Nat.reduceAdd]
            simp [execOp, Act.eval, go_sem]
          · refine OgStep.pure ?_ ?_
            · rfl
            intro u W hS hp
            have h0 : u 0 = .slice A L cap := hp ⟨0, .data⟩ (by simp) rfl
            have h1 : u 1 = .int .i64 (P : Int) := hp ⟨1, .data⟩ (by simp) rfl
            have R := HSH.out W
            refine ⟨.slice A P cap, ?_, rfl⟩
            simp only [ogMk, Act.put, List.setIfInBounds_toArray, List.set_cons_zero, List.set_cons_succ, Nat.zero_add, Nat.reduceAdd]
            simp [execOp, Act.eval, go_sem, h0, h1, R]
          · refine OgStep.calls ?_ ?_
            · rfl
            intro u W hS hp
            have h2 : u 2 = .slice A P cap := hp ⟨2, .data⟩ (by simp) rfl
            refine ⟨26, #[.slice A P cap], ?_, calls_kF (HC1.out W (HB4.out.trans (hS.mono HB4.out.size))) rfl⟩
            simp only [ogMk, Act.put, List.setIfInBounds_toArray, List.set_cons_zero, List.set_cons_succ, Nat.zero_add, Nat.reduceAdd]
            simp [execOp, Act.eval, go_sem, h2]
          · refine OgStep.pure ?_ ?_
            · rfl
            intro u W hS hp
            have R0 := (oneX_below HX.out hS).1
            have R1 := (oneX_below HX.out hS).2.1
            refine ⟨.agg #[.int .u32 a, .slice A5 (kp G ⟨sf, x0, x1, x2, x3, x4, x5, st⟩).length c5], ?_, rfl⟩
            simp only [ogMk, Act.put, List.setIfInBounds_toArray, List.set_cons_zero, List.set_cons_succ, Nat.zero_add, Nat.reduceAdd]
            simp [execOp, Act.eval, go_sem, R0, R1]
          · refine OgStep.made ?_ ?_
            · rfl
            intro u W hS hp
            have h4 : u 4 = .agg #[.int .u32 a, .slice A5 (kp G ⟨sf, x0, x1, x2, x3, x4, x5, st⟩).length c5] := hp ⟨4, .data⟩ (by simp) rfl
            refine ⟨.slice (some ⟨W.heap.size, 0, none⟩) 1 1, _, ?_, (Below.refl _ W).alloc (Nat.le_refl _) _, HK1.out W (oneX_below HX.out hS).2.2⟩
            simp only [ogMk, Act.put, List.setIfInBounds_toArray, List.set_cons_zero, List.set_cons_succ, Nat.zero_add, Nat.reduceAdd]
            simp [execOp, Act.eval, go_sem, h4]
          · refine OgStep.pure ?_ ?_
            · rfl
            intro u W hS hp
            refine ⟨.slice (dA 2 A cap (P + 1)) (L - (P + 1)) (cap - (P + 1)), ?_, rfl⟩
            simp only [ogMk, Act.put, List.setIfInBounds_toArray, List.set_cons_zero, List.set_cons_succ, Nat.zero_add, Nat.reduceAdd]
            simp [execOp, Act.eval, go_sem]
          · refine OgStep.calls ?_ ?_
            · rfl
            intro u W hS hp
            have h6 : u 6 = .slice (dA 2 A cap (P + 1)) (L - (P + 1)) (cap - (P + 1)) := hp ⟨6, .data⟩ (by simp) rfl
            refine ⟨26, #[.slice (dA 2 A cap (P + 1)) (L - (P + 1)) (cap - (P + 1))], ?_, calls_kF (HC2.out W (HB4.out.trans (hS.mono HB4.out.size))) rfl⟩
            simp only [ogMk, Act.put, List.setIfInBounds_toArray, List.set_cons_zero, List.set_cons_succ, Nat.zero_add, Nat.reduceAdd]
            simp [execOp, Act.eval, go_sem, h6]
          · refine OgStep.made ?_ ?_
            · rfl
            intro u W hS hp
            obtain ⟨A3, c3, h3, _, _, hR3⟩ : kF T1 (u 3) W := hp ⟨3, .data⟩ (by simp) rfl
            obtain ⟨A5, c5, h5, _, _, hR5⟩ : kF [⟨a, (kp G ⟨sf, x0, x1, x2, x3, x4, x5, st⟩)⟩] (u 5) W := hp ⟨5, .data⟩ (by simp) rfl
            obtain ⟨A7, c7, h7, _, _, hR7⟩ : kF T2 (u 7) W := hp ⟨7, .data⟩ (by simp) rfl
            refine ⟨.slice (some ⟨W.heap.size, 0, none⟩) 3 3, _, ?_, (Below.refl _ W).alloc (Nat.le_refl _) _, HQ.out W A3 A5 A7 c3 c5 c7 hR3 hR5 hR7⟩
            simp only [ogMk, Act.put, List.setIfInBounds_toArray, List.set_cons_zero, List.set_cons_succ, Nat.zero_add, Nat.reduceAdd]
            rw [h3, h5, h7]
            simp [execOp, Act.eval, go_sem]
          · refine OgStep.calls ?_ ?_
            · rfl
            intro u W hS hp
            obtain ⟨b, qs, e8, hl8, hPm, hct, hin⟩ : qK R (u 8) W := hp ⟨8, .data⟩ (by simp) rfl
            refine ⟨25, #[.slice (some ⟨b, 0, none⟩) 3 3], ?_, calls_kF (concat_k hl8 hPm hct hin HRL.out) rfl⟩
            simp only [ogMk, Act.put, List.setIfInBounds_toArray, List.set_cons_zero, List.set_cons_succ, Nat.zero_add, Nat.reduceAdd]
            rw [e8]
            simp [execOp, Act.eval, go_sem]
          · refine OgStep.pure ?_ ?_
            · rfl
            intro u W hS hp
            have h9 : kF R (u 9) W := hp ⟨9, .data⟩ (by simp) rfl
            refine ⟨u 9, ?_, h9⟩
            simp only [ogMk, Act.put, List.setIfInBounds_toArray, List.set_cons_zero, List.set_cons_succ, Nat.zero_add, Nat.reduceAdd]
            simp [execOp, Act.eval, go_sem]
          · refine OgStep.pure ?_ ?_
            · rfl
            intro u W hS hp
            refine ⟨.int .i64 0, ?_, rfl⟩
            simp only [ogMk, Act.put, List.setIfInBounds_toArray, List.set_cons_zero, List.set_cons_succ, Nat.zero_add, Nat.reduceAdd]
            simp [execOp, Act.eval, go_sem]
        · intro u W hS hF'
          have hF10 : kF R (u 10) W := hF' 10 (by decide)
          have hF := hF'
          have e0 : u 0 = .slice A L cap := hF 0 (by decide)
          have e1 : u 1 = .int .i64 (P : Int) := hF 1 (by decide)
          have e2 : u 2 = .slice A P cap := hF 2 (by decide)
          have e4 : u 4 = .agg #[.int .u32 a, .slice A5 (kp G ⟨sf, x0, x1, x2, x3, x4, x5, st⟩).length c5] := hF 4 (by decide)
          have e6 : u 6 = .slice (dA 2 A cap (P + 1)) (L - (P + 1)) (cap - (P + 1)) := hF 6 (by decide)
          have e11 : u 11 = .int .i64 0 := hF 11 (by decide)
          simp only [ogMk, Act.put, List.setIfInBounds_toArray, List.set_cons_zero, List.set_cons_succ, Nat.zero_add, Nat.reduceAdd]
          rw [e0, e1, e2, e4, e6, e11]
          clear hF' e0 e1 e2 e4 e6 e11 hF
          go_wp2_with fail
          go_ret2
          exact ⟨_, rfl, HB4.out.trans (hS.mono HB4.out.size), hF10⟩
    · replace h1 := h1 rfl
      clear h2
      go_enter Try.func11, Try.ntmps11
      go_wp2_with fail
      refine HM.out.mono ?_
      rintro e w1 ⟨rfl, rfl⟩
      go_wp2_with fail
      refine HLA.out.mono ?_
      rintro e w1 ⟨rfl, n1, rfl⟩
      go_wp2_with fail
      refine (HPL.out n1).mono ?_
      rintro e w2 ⟨rfl, n2, hw2⟩
      have HB2 := Lib.hid (show Below w.heap.size w w2 from hw2 ▸ bdrewN (bdrewN HBB0.out n1) n2)
      have HBX := Lib.hid (show Rw eS w2 (some ⟨w.heap.size, 0, none⟩) [⟨sf, x0, x1, x2, x3, x4, x5, st⟩] from hw2 ▸ (HBX0.out.drewN n1).drewN n2)
      clear hw2 HM HLA HPL HBX0
      go_wp2_with fail
      refine wp_region_below_end (by simp) [fx (.int .u32 a), fx (.slice A L cap), fx (.int .u32 a), sF G, fx (.agg #[.int .i64 sf, .int .u8 x0, .int .u8 x1, .int .u8 x2, .int .u8 x3, .int .u8 x4, .int .u8 x5, .int .i64 st]), sF (kp G ⟨sf, x0, x1, x2, x3, x4, x5, st⟩), bF a (kp G ⟨sf, x0, x1, x2, x3, x4, x5, st⟩), zF w.heap.size]
        (by kernel_rfl) (by kernel_rfl) (by kernel_rfl) (by kernel_rfl) ?_ ?_ ?_
      · simp only [List.mem_cons, List.not_mem_nil, or_false]
        rintro φ (rfl | rfl | rfl | rfl | rfl | rfl | rfl | rfl)
        all_goals first | exact stable_fx _ | exact stable_fr _ _ | exact stable_sF _ | exact stable_bF _ _ | exact stable_zF _
      · refine OgSteps.cons ?_ (OgSteps.cons ?_ (OgSteps.cons ?_ (OgSteps.cons ?_ (OgSteps.cons ?_ (OgSteps.cons ?_ (OgSteps.cons ?_ (OgSteps.cons ?_ (OgSteps.nil))))))))
        · refine OgStep.pure ?_ ?_
          · rfl
          intro u W hS hp
          refine ⟨.int .u32 a, ?_, rfl⟩
          simp only [ogMk, Act.put, List.setIfInBounds_toArray, List.set_cons_zero, List.set_cons_succ, Nat.zero_add, Nat.reduceAdd]
          simp [execOp, Act.eval, go_sem]
        · refine OgStep.pure ?_ ?_
          · rfl
          intro u W hS hp
          refine ⟨.slice A L cap, ?_, rfl⟩
          simp only [ogMk, Act.put, List.setIfInBounds_toArray, List.set_cons_zero, List.set_cons_succ, Nat.zero_add, Nat.reduceAdd]
          simp [execOp, Act.eval, go_sem]
        · refine OgStep.pure ?_ ?_
          · rfl
          intro u W hS hp
          refine ⟨.int .u32 a, ?_, rfl⟩
          simp only [ogMk, Act.put, List.setIfInBounds_toArray, List.set_cons_zero, List.set_cons_succ, Nat.zero_add, Nat.reduceAdd]
          simp [execOp, Act.eval, go_sem]
        · refine OgStep.calls ?_ ?_
          · rfl
          intro u W hS hp
          have h1 : u 1 = .slice A L cap := hp ⟨1, .data⟩ (by simp) rfl
          have h2 : u 2 = .int .u32 a := hp ⟨2, .data⟩ (by simp) rfl
          refine ⟨14, #[.slice A L cap, .int .u32 a], ?_, calls_sF (HOF.out W (HB2.out.trans (hS.mono HB2.out.size))) rfl⟩
          simp only [ogMk, Act.put, List.setIfInBounds_toArray, List.set_cons_zero, List.set_cons_succ, Nat.zero_add, Nat.reduceAdd]
          simp [execOp, Act.eval, go_sem, h1, h2]
        · refine OgStep.pure ?_ ?_
          · rfl
          intro u W hS hp
          obtain ⟨R0, R1, R2, R3, R4, R5, R6, R7⟩ := s_c8 (HBX.out.below hS)
          refine ⟨.agg #[.int .i64 sf, .int .u8 x0, .int .u8 x1, .int .u8 x2, .int .u8 x3, .int .u8 x4, .int .u8 x5, .int .i64 st], ?_, rfl⟩
          simp only [ogMk, Act.put, List.setIfInBounds_toArray, List.set_cons_zero, List.set_cons_succ, Nat.zero_add, Nat.reduceAdd]
          simp [execOp, Act.eval, go_sem, R0, R1, R2, R3, R4, R5, R6, R7]
        · refine OgStep.calls ?_ ?_
          · rfl
          intro u W hS hp
          obtain ⟨A3, c3, h3, hc3, _, hR3⟩ : sF G (u 3) W := hp ⟨3, .data⟩ (by simp) rfl
          have h4 : u 4 = .agg #[.int .i64 sf, .int .u8 x0, .int .u8 x1, .int .u8 x2, .int .u8 x3, .int .u8 x4, .int .u8 x5, .int .i64 st] := hp ⟨4, .data⟩ (by simp) rfl
          refine ⟨16, #[.slice A3 G.length c3, .agg #[.int .i64 sf, .int .u8 x0, .int .u8 x1, .int .u8 x2, .int .u8 x3, .int .u8 x4, .int .u8 x5, .int .i64 st]], ?_, calls_sF (HKP.out W A3 c3 hR3 hc3) rfl⟩
          simp only [ogMk, Act.put, List.setIfInBounds_toArray, List.set_cons_zero, List.set_cons_succ, Nat.zero_add, Nat.reduceAdd]
          rw [h3, h4]
          simp [execOp, Act.eval, go_sem]
        · refine OgStep.pure ?_ ?_
          · rfl
          intro u W hS hp
          obtain ⟨A5, c5, h5, hc5, hm5, hR5⟩ : sF (kp G ⟨sf, x0, x1, x2, x3, x4, x5, st⟩) (u 5) W := hp ⟨5, .data⟩ (by simp) rfl
          have h0 : u 0 = .int .u32 a := hp ⟨0, .data⟩ (by simp) rfl
          refine ⟨.agg #[.int .u32 a, .slice A5 (kp G ⟨sf, x0, x1, x2, x3, x4, x5, st⟩).length c5], ?_, ⟨A5, c5, rfl, hc5, hm5, hR5⟩⟩
          simp only [ogMk, Act.put, List.setIfInBounds_toArray, List.set_cons_zero, List.set_cons_succ, Nat.zero_add, Nat.reduceAdd]
          rw [h0, h5]
          simp [execOp, Act.eval, go_sem]
        · refine OgStep.made ?_ ?_
          · rfl
          intro u W hS hp
          refine ⟨.pointer (some ⟨W.heap.size, 0, none⟩), _, ?_, (Below.refl _ W).alloc (Nat.le_refl _) (.cells #[.int .u32 0, .slice none 0 0] 53), ⟨W.heap.size, rfl, Nat.le_trans HB2.out.size hS.size, by simp, by simp, by simp, fun j => by simp⟩⟩
          simp only [ogMk, Act.put, List.setIfInBounds_toArray, List.set_cons_zero, List.set_cons_succ, Nat.zero_add, Nat.reduceAdd]
          simp [execOp, Act.eval, go_sem]
      · intro u W hS hF
        have hF' := hF
        have e0 : u 0 = .int .u32 a := hF 0 (by decide)
        have e1 : u 1 = .slice A L cap := hF 1 (by decide)
        have e2 : u 2 = .int .u32 a := hF 2 (by decide)
        have e4 : u 4 = .agg #[.int .i64 sf, .int .u8 x0, .int .u8 x1, .int .u8 x2, .int .u8 x3, .int .u8 x4, .int .u8 x5, .int .i64 st] := hF 4 (by decide)
        simp only [ogMk, Act.put, List.setIfInBounds_toArray, List.set_cons_zero, List.set_cons_succ, Nat.zero_add, Nat.reduceAdd]
        rw [e0, e1, e2, e4]
        clear e0 e1 e2 e4 hF
        obtain ⟨A5, c5, e6, hc5, hm5, hR5⟩ : bF a (kp G ⟨sf, x0, x1, x2, x3, x4, x5, st⟩) (u 6) W := hF' 6 (by decide)
        obtain ⟨b, e7, hb1, hb2, hb3, hb4, hb5⟩ : zF w.heap.size (u 7) W := hF' 7 (by decide)
        obtain ⟨A3, c3, e3, _⟩ : sF G (u 3) W := hF' 3 (by decide)
        obtain ⟨A4, c4, e5, _⟩ : sF (kp G ⟨sf, x0, x1, x2, x3, x4, x5, st⟩) (u 5) W := hF' 5 (by decide)
        rw [e3, e5, e6, e7]
        have HW := Lib.hid (HB2.out.trans (hS.mono HB2.out.size))
        clear hF' e3 e5 e6 e7
        have hf0 := hb5 0
        have hf1 := hb5 1
        have HB4 := Lib.hid (show Below w.heap.size w ((W.setCell ⟨b, 0, none⟩ (.int .u32 a)).setCell ⟨b, 1, none⟩ (.slice A5 (kp G ⟨sf, x0, x1, x2, x3, x4, x5, st⟩).length c5)) from (HW.out.setCell hb1 _).setCell hb1 _)
        have HX := Lib.hid (show oneX b a A5 c5 (kp G ⟨sf, x0, x1, x2, x3, x4, x5, st⟩).length (kp G ⟨sf, x0, x1, x2, x3, x4, x5, st⟩) ((W.setCell ⟨b, 0, none⟩ (.int .u32 a)).setCell ⟨b, 1, none⟩ (.slice A5 (kp G ⟨sf, x0, x1, x2, x3, x4, x5, st⟩).length c5)) from one_stored hb2 hb3 hb4 hR5)
        have HK1 := Lib.hid fun W (hW : Rw eS W A5 (kp G ⟨sf, x0, x1, x2, x3, x4, x5, st⟩)) => k_one W ⟨a, A5, c5, kp G ⟨sf, x0, x1, x2, x3, x4, x5, st⟩⟩ ⟨HA.out.1, HA.out.2, hW, hc5, hm5⟩
        clear hR5 hS hb5 hm5 hc5 HBX
        go_wp2_with fail
        refine wp_region_below [fx (.slice A L cap), fx (.int .i64 (P : Int)), fx (.slice A P cap), kF T1, fx (.agg #[.int .u32 a, .slice A5 (kp G ⟨sf, x0, x1, x2, x3, x4, x5, st⟩).length c5]), kF [⟨a, (kp G ⟨sf, x0, x1, x2, x3, x4, x5, st⟩)⟩], fx (.slice (dA 2 A cap (P + 1)) (L - (P + 1)) (cap - (P + 1))), kF T2, qK R, kF R, kF R, fx (.int .i64 0)]
          (by kernel_rfl) (by kernel_rfl) (by kernel_rfl) ?_ ?_ ?_
        · simp only [List.mem_cons, List.not_mem_nil, or_false]
          rintro φ (rfl | rfl | rfl | rfl | rfl | rfl | rfl | rfl | rfl | rfl | rfl | rfl)
          all_goals first | exact stable_fx _ | exact stable_fr _ _ | exact stable_kF _ | exact stable_qK _
        · refine OgSteps.cons ?_ (OgSteps.cons ?_ (OgSteps.cons ?_ (OgSteps.cons ?_ (OgSteps.cons ?_ (OgSteps.cons ?_ (OgSteps.cons ?_ (OgSteps.cons ?_ (OgSteps.cons ?_ (OgSteps.cons ?_ (OgSteps.cons ?_ (OgSteps.cons ?_ (OgSteps.nil))))))))))))
          · refine OgStep.pure ?_ ?_
            · rfl
            intro u W hS hp
            refine ⟨.slice A L cap, ?_, rfl⟩
            simp only [ogMk, Act.put, List.setIfInBounds_toArray, List.set_cons_zero, List.set_cons_succ, Nat.zero_add, Nat.reduceAdd]
            simp [execOp, Act.eval, go_sem]
          · refine OgStep.pure ?_ ?_
            · rfl
            intro u W hS hp
            refine ⟨.int .i64 (P : Int), ?_, rfl⟩
            simp only [ogMk, Act.put, List.setIfInBounds_toArray, List.set_cons_zero, List.set_cons_succ, Nat.zero_add, Nat.reduceAdd]
            simp [execOp, Act.eval, go_sem]
          · refine OgStep.pure ?_ ?_
            · rfl
            intro u W hS hp
            have h0 : u 0 = .slice A L cap := hp ⟨0, .data⟩ (by simp) rfl
            have h1 : u 1 = .int .i64 (P : Int) := hp ⟨1, .data⟩ (by simp) rfl
            have R := HSH.out W
            refine ⟨.slice A P cap, ?_, rfl⟩
            simp only [ogMk, Act.put, List.setIfInBounds_toArray, List.set_cons_zero, List.set_cons_succ, Nat.zero_add, Nat.reduceAdd]
            simp [execOp, Act.eval, go_sem, h0, h1, R]
          · refine OgStep.calls ?_ ?_
            · rfl
            intro u W hS hp
            have h2 : u 2 = .slice A P cap := hp ⟨2, .data⟩ (by simp) rfl
            refine ⟨26, #[.slice A P cap], ?_, calls_kF (HC1.out W (HB4.out.trans (hS.mono HB4.out.size))) rfl⟩
            simp only [ogMk, Act.put, List.setIfInBounds_toArray, List.set_cons_zero, List.set_cons_succ, Nat.zero_add, Nat.reduceAdd]
            simp [execOp, Act.eval, go_sem, h2]
          · refine OgStep.pure ?_ ?_
            · rfl
            intro u W hS hp
            have R0 := (oneX_below HX.out hS).1
            have R1 := (oneX_below HX.out hS).2.1
            refine ⟨.agg #[.int .u32 a, .slice A5 (kp G ⟨sf, x0, x1, x2, x3, x4, x5, st⟩).length c5], ?_, rfl⟩
            simp only [ogMk, Act.put, List.setIfInBounds_toArray, List.set_cons_zero, List.set_cons_succ, Nat.zero_add, Nat.reduceAdd]
            simp [execOp, Act.eval, go_sem, R0, R1]
          · refine OgStep.made ?_ ?_
            · rfl
            intro u W hS hp
            have h4 : u 4 = .agg #[.int .u32 a, .slice A5 (kp G ⟨sf, x0, x1, x2, x3, x4, x5, st⟩).length c5] := hp ⟨4, .data⟩ (by simp) rfl
            refine ⟨.slice (some ⟨W.heap.size, 0, none⟩) 1 1, _, ?_, (Below.refl _ W).alloc (Nat.le_refl _) _, HK1.out W (oneX_below HX.out hS).2.2⟩
            simp only [ogMk, Act.put, List.setIfInBounds_toArray, List.set_cons_zero, List.set_cons_succ, Nat.zero_add, Nat.reduceAdd]
            simp [execOp, Act.eval, go_sem, h4]
          · refine OgStep.pure ?_ ?_
            · rfl
            intro u W hS hp
            refine ⟨.slice (dA 2 A cap (P + 1)) (L - (P + 1)) (cap - (P + 1)), ?_, rfl⟩
            simp only [ogMk, Act.put, List.setIfInBounds_toArray, List.set_cons_zero, List.set_cons_succ, Nat.zero_add, Nat.reduceAdd]
            simp [execOp, Act.eval, go_sem]
          · refine OgStep.calls ?_ ?_
            · rfl
            intro u W hS hp
            have h6 : u 6 = .slice (dA 2 A cap (P + 1)) (L - (P + 1)) (cap - (P + 1)) := hp ⟨6, .data⟩ (by simp) rfl
            refine ⟨26, #[.slice (dA 2 A cap (P + 1)) (L - (P + 1)) (cap - (P + 1))], ?_, calls_kF (HC2.out W (HB4.out.trans (hS.mono HB4.out.size))) rfl⟩
            simp only [ogMk, Act.put, List.setIfInBounds_toArray, List.set_cons_zero, List.set_cons_succ, Nat.zero_add, Nat.reduceAdd]
            simp [execOp, Act.eval, go_sem, h6]
          · refine OgStep.made ?_ ?_
            · rfl
            intro u W hS hp
            obtain ⟨A3, c3, h3, _, _, hR3⟩ : kF T1 (u 3) W := hp ⟨3, .data⟩ (by simp) rfl
            obtain ⟨A5, c5, h5, _, _, hR5⟩ : kF [⟨a, (kp G ⟨sf, x0, x1, x2, x3, x4, x5, st⟩)⟩] (u 5) W := hp ⟨5, .data⟩ (by simp) rfl
            obtain ⟨A7, c7, h7, _, _, hR7⟩ : kF T2 (u 7) W := hp ⟨7, .data⟩ (by simp) rfl
            refine ⟨.slice (some ⟨W.heap.size, 0, none⟩) 3 3, _, ?_, (Below.refl _ W).alloc (Nat.le_refl _) _, HQ.out W A3 A5 A7 c3 c5 c7 hR3 hR5 hR7⟩
            simp only [ogMk, Act.put, List.setIfInBounds_toArray, List.set_cons_zero, List.set_cons_succ, Nat.zero_add, Nat.reduceAdd]
            rw [h3, h5, h7]
            simp [execOp, Act.eval, go_sem]
          · refine OgStep.calls ?_ ?_
            · rfl
            intro u W hS hp
            obtain ⟨b, qs, e8, hl8, hPm, hct, hin⟩ : qK R (u 8) W := hp ⟨8, .data⟩ (by simp) rfl
            refine ⟨25, #[.slice (some ⟨b, 0, none⟩) 3 3], ?_, calls_kF (concat_k hl8 hPm hct hin HRL.out) rfl⟩
            simp only [ogMk, Act.put, List.setIfInBounds_toArray, List.set_cons_zero, List.set_cons_succ, Nat.zero_add, Nat.reduceAdd]
            rw [e8]
            simp [execOp, Act.eval, go_sem]
          · refine OgStep.pure ?_ ?_
            · rfl
            intro u W hS hp
            have h9 : kF R (u 9) W := hp ⟨9, .data⟩ (by simp) rfl
            refine ⟨u 9, ?_, h9⟩
            simp only [ogMk, Act.put, List.setIfInBounds_toArray, List.set_cons_zero, List.set_cons_succ, Nat.zero_add, Nat.reduceAdd]
            simp [execOp, Act.eval, go_sem]
          · refine OgStep.pure ?_ ?_
            · rfl
            intro u W hS hp
            refine ⟨.int .i64 0, ?_, rfl⟩
            simp only [ogMk, Act.put, List.setIfInBounds_toArray, List.set_cons_zero, List.set_cons_succ, Nat.zero_add, Nat.reduceAdd]
            simp [execOp, Act.eval, go_sem]
        · intro u W hS hF'
          have hF10 : kF R (u 10) W := hF' 10 (by decide)
          have hF := hF'
          have e0 : u 0 = .slice A L cap := hF 0 (by decide)
          have e1 : u 1 = .int .i64 (P : Int) := hF 1 (by decide)
          have e2 : u 2 = .slice A P cap := hF 2 (by decide)
          have e4 : u 4 = .agg #[.int .u32 a, .slice A5 (kp G ⟨sf, x0, x1, x2, x3, x4, x5, st⟩).length c5] := hF 4 (by decide)
          have e6 : u 6 = .slice (dA 2 A cap (P + 1)) (L - (P + 1)) (cap - (P + 1)) := hF 6 (by decide)
          have e11 : u 11 = .int .i64 0 := hF 11 (by decide)
          simp only [ogMk, Act.put, List.setIfInBounds_toArray, List.set_cons_zero, List.set_cons_succ, Nat.zero_add, Nat.reduceAdd]
          rw [e0, e1, e2, e4, e6, e11]
          clear hF' e0 e1 e2 e4 e6 e11 hF
          go_wp2_with fail
          go_ret2
          exact ⟨_, rfl, HB4.out.trans (hS.mono HB4.out.size), hF10⟩
end Go.Proofs.Ytcnhagcmklgpkaa
