/-
  The contracts of seen.Of, seen.copied and seen.Keep. Conditions: the rows lie in memory, and have up to 1000000 elements.
-/
import Derived.Test.YtcnhagcmklgpkaaCat
import Derived.Test.YtcnhagcmklgpkaaOg
set_option linter.unusedSimpArgs false
set_option linter.unusedVariables false
namespace Go.Proofs.Ytcnhagcmklgpkaa
open Go.RowKit

/-- A slice of these sightings; of these addresses. -/
def sF (ss : List Sg) : Value → World → Prop := fun v W => ∃ A c, v = .slice A ss.length c ∧ ss.length ≤ c ∧ c ≤ maxLen ∧ Rw eS W A ss
def kF (ps : List Kp) : Value → World → Prop := fun v W => ∃ A c, v = .slice A ps.length c ∧ ps.length ≤ c ∧ c ≤ maxLen ∧ Ks W A ps
theorem stable_sF (ss : List Sg) : Stable (sF ss) := fun _ _ _ ⟨A, c, h1, h2, h3, h4⟩ hb => ⟨A, c, h1, h2, h3, h4.below hb⟩
theorem stable_kF (ps : List Kp) : Stable (kF ps) := fun _ _ _ ⟨A, c, h1, h2, h3, h4⟩ hb => ⟨A, c, h1, h2, h3, h4.below hb⟩
def SPost (w : World) (ss : List Sg) (e : Ending) (w' : World) : Prop := ∃ v, e = .returned v ∧ Below w.heap.size w w' ∧ sF ss v w'
def KPost (w : World) (ps : List Kp) (e : Ending) (w' : World) : Prop := ∃ v, e = .returned v ∧ Below w.heap.size w w' ∧ kF ps v w'
theorem OwnPost.s {w w' : World} {ss : List Sg} {e : Ending} (h : OwnPost eS 35 w ss e w') (hn : ss.length ≤ 1000000000) : SPost w ss e w' := by
  obtain ⟨v, he, ho, hb⟩ := h
  obtain ⟨A, cap, rfl, hc, hm, _, hr, _⟩ := own_rw (E := eS) ho (by omega)
  exact ⟨_, he, hb, A, cap, rfl, hc, hm, hr⟩
theorem sF_nil (W : World) : sF [] (.slice none 0 0) W := ⟨none, 0, rfl, by simp, by unfold maxLen; omega, Rw.nil _ _⟩
theorem kF_nil (W : World) : kF [] (.slice none 0 0) W := ⟨none, 0, rfl, by simp, by unfold maxLen; omega, Ks.nil _ _⟩

theorem size35' (W : World) : (Go.sizeOf 35).run Try.prog W = .ok 8 W := by
  obtain ⟨i, hi, hs⟩ := Option.map_eq_some_iff.1 size35
  rw [← hs]
  simp [Go.sizeOf, typeInfo, hi]
theorem size53' (W : World) : (Go.sizeOf 53).run Try.prog W = .ok 2 W := by
  obtain ⟨i, hi, hs⟩ := Option.map_eq_some_iff.1 size53
  rw [← hs]
  simp [Go.sizeOf, typeInfo, hi]
theorem slS_l (A : Option Addr) (n c k : Nat) (hk : k ≤ n) (hc : n ≤ c) (W : World) : (Instr.slice 39 (.slice A n c) (some (.int .i64 (k : Int))) none none).run Try.prog W = .ok (.slice (dA 8 A c k) (n - k) (c - k)) W := by
  have h1 : (k : Int) ≤ n := by omega
  unfold Instr.slice Instr.sliceBounds Instr.sliceBound
  simp only [Sem.run_bind, run_underlying Try.underlying39, Result.andThen_ok, Sem.run_pure, size35', asIntOf]
  try simp only [Option.isSome_none, Bool.false_eq_true, if_false, Sem.run_bind, Sem.run_pure, Result.andThen_ok]
  rw [if_pos ⟨by omega, h1⟩]
  simp only [Sem.run_bind, Sem.run_pure, Result.andThen_ok, Int.toNat_natCast]
  rfl
theorem slK_l (A : Option Addr) (n c k : Nat) (hk : k ≤ n) (hc : n ≤ c) (W : World) : (Instr.slice 25 (.slice A n c) (some (.int .i64 (k : Int))) none none).run Try.prog W = .ok (.slice (dA 2 A c k) (n - k) (c - k)) W := by
  have h1 : (k : Int) ≤ n := by omega
  unfold Instr.slice Instr.sliceBounds Instr.sliceBound
  simp only [Sem.run_bind, run_underlying Try.underlying25, Result.andThen_ok, Sem.run_pure, size53', asIntOf]
  try simp only [Option.isSome_none, Bool.false_eq_true, if_false, Sem.run_bind, Sem.run_pure, Result.andThen_ok]
  rw [if_pos ⟨by omega, h1⟩]
  simp only [Sem.run_bind, Sem.run_pure, Result.andThen_ok, Int.toNat_natCast]
  rfl
theorem slK_h (A : Option Addr) (n c i : Nat) (hi : i ≤ c) (W : World) : (Instr.slice 25 (.slice A n c) none (some (.int .i64 (i : Int))) none).run Try.prog W = .ok (.slice A i c) W := by
  have h1 : (i : Int) ≤ c := by omega
  have h2 : A.map (·.add (0 * 2)) = A := by cases A <;> simp [Addr.add]
  unfold Instr.slice Instr.sliceBounds Instr.sliceBound
  simp only [Sem.run_bind, run_underlying Try.underlying25, Result.andThen_ok, Sem.run_pure, size53', asIntOf]
  try simp only [Option.isSome_none, Bool.false_eq_true, if_false, Sem.run_bind, Sem.run_pure, Result.andThen_ok]
  rw [if_pos ⟨by omega, h1⟩]
  simp only [Sem.run_bind, Sem.run_pure, Result.andThen_ok, h2, ite_self, Nat.sub_zero, Int.toNat_natCast]

set_option maxRecDepth 100000 in
set_option maxHeartbeats 2000000 in
theorem of_any (a : Int) (A : Option Addr) (xs : List Kp) (cap : Nat) (w : World) (h : Ks w A xs) (hcap : xs.length ≤ cap) (hb : ∀ x ∈ xs, x.ss.length ≤ 1000000) (ha0 : 0 ≤ a) (ha1 : a < 4294967296) :
    Calls Try.prog 14 #[.slice A xs.length cap, .int .u32 a] w (SPost w (sg xs a)) := by
  have hln := h.len
  have HC := Lib.hid (place_any a A xs cap w h ha0 ha1)
  have hle := lo_le a xs
  cases hI : isAt xs a with
  | false =>
    have HS := Lib.hid (show sg xs a = [] from sg_no hI)
    rw [hI] at HC
    clear h hI
    generalize xs.length = L at *
    generalize lo xs a = P at *
    go_enter Try.func14, Try.ntmps14
    go_wp2_with fail
    refine HC.out.mono ?_
    rintro e w1 ⟨rfl, n, rfl⟩
    go_wp2_with fail
    go_ret
    exact ⟨_, rfl, bdrewN (Below.refl _ _) _, by rw [HS.out]; exact sF_nil _⟩
  | true =>
    obtain ⟨x, hx, hxa, hlt⟩ := isAt_some hI
    obtain ⟨y, P1, c1, rfl, hin, hc⟩ := h.kn hx
    have HS := Lib.hid (sg_at hI hx)
    rw [hI] at HC
    have k1 : w.cell? ⟨(y.add (lo xs a * 2)).block, (y.add (lo xs a * 2)).off + 1, none⟩ = some (.slice P1 x.ss.length c1) := hc 1 _ rfl
    have hl8 := hb x (List.mem_of_getElem? hx)
    have HCL := Lib.hid fun n => cloneS_any P1 x.ss c1 (w.drewN n) (hin.lies.drewN n) hl8 hin.le
    have HL8 := Lib.hid hl8
    clear h hI hx hin hc hxa hb hl8
    generalize xs.length = L at *
    generalize lo xs a = P at *
    go_enter Try.func14, Try.ntmps14
    go_wp2_with fail
    refine HC.out.mono ?_
    rintro e w1 ⟨rfl, n, rfl⟩
    go_wp2_with fail
    refine (HCL.out n).mono ?_
    intro e w2 hp
    obtain ⟨v, rfl, hb, hs⟩ := hp.s (by have := HL8.out; omega)
    have BB := Lib.hid hb
    have SS := Lib.hid hs
    clear hp hb hs
    go_wp2_with fail
    go_ret
    exact ⟨_, rfl, (bdrewN (Below.refl _ w) n).trans BB.out, by rw [HS.out]; exact SS.out⟩

/-- A new variable with a sighting is a row of one. -/
theorem rw_one (W : World) (s : Sg) : Rw eS (W.alloc (Sx s)) (some ⟨W.heap.size, 0, none⟩) [s] := by
  refine ⟨by simp, fun q z hq => ?_⟩
  match q, hq with
  | 0, hq =>
    simp at hq
    subst hq
    refine ⟨_, rfl, fun j v hv => ?_⟩
    rw [Addr.add_mid]
    change (sl s)[j]? = some v at hv
    show (W.alloc (Sx s)).cell? ⟨W.heap.size, 0 + (0 * 8 + j), none⟩ = _
    match j, hv with
    | 0, h => simp [sl] at h; subst h; simp [Sx]
    | 1, h => simp [sl] at h; subst h; simp [Sx]
    | 2, h => simp [sl] at h; subst h; simp [Sx]
    | 3, h => simp [sl] at h; subst h; simp [Sx]
    | 4, h => simp [sl] at h; subst h; simp [Sx]
    | 5, h => simp [sl] at h; subst h; simp [Sx]
    | 6, h => simp [sl] at h; subst h; simp [Sx]
    | 7, h => simp [sl] at h; subst h; simp [Sx]
    | j + 8, h => simp [sl] at h
  | q + 1, hq => simp at hq
theorem sF_one (W : World) (s : Sg) : sF [s] (.slice (some ⟨W.heap.size, 0, none⟩) 1 1) (W.alloc (Sx s)) := ⟨_, 1, rfl, by simp, by unfold maxLen; omega, rw_one W s⟩
/-- A variable with a sighting reads so. -/
theorem s_c8 {W : World} {b : Nat} {s : Sg} (h : Rw eS W (some ⟨b, 0, none⟩) [s]) : W.cell? ⟨b, 0, none⟩ = some (.int .i64 s.f) ∧ W.cell? ⟨b, 1, none⟩ = some (.int .u8 s.m0) ∧ W.cell? ⟨b, 2, none⟩ = some (.int .u8 s.m1) ∧ W.cell? ⟨b, 3, none⟩ = some (.int .u8 s.m2) ∧ W.cell? ⟨b, 4, none⟩ = some (.int .u8 s.m3) ∧ W.cell? ⟨b, 5, none⟩ = some (.int .u8 s.m4) ∧ W.cell? ⟨b, 6, none⟩ = some (.int .u8 s.m5) ∧ W.cell? ⟨b, 7, none⟩ = some (.int .i64 s.t) := by
  have H : ∀ j v, (sl s)[j]? = some v → W.cell? ⟨b, j, none⟩ = some v := fun j v hv => by
    have := h.at (q := 0) (x := s) rfl j v hv
    rw [show ((⟨b, 0, none⟩ : Addr).add (0 * eS.N)).add j = ⟨b, j, none⟩ by rw [Nat.zero_mul, show (⟨b, 0, none⟩ : Addr).add 0 = ⟨b, 0, none⟩ from rfl, Addr.add_mid, Nat.zero_add]] at this
    exact this
  exact ⟨H 0 _ rfl, H 1 _ rfl, H 2 _ rfl, H 3 _ rfl, H 4 _ rfl, H 5 _ rfl, H 6 _ rfl, H 7 _ rfl⟩

/-- Parts that come to a row. -/
def qF {α : Type} (E : El α) (n : Nat) (rs : List α) : Value → World → Prop := fun v W => ∃ b qs, v = .slice (some ⟨b, 0, none⟩) n n ∧ qs.length = n ∧ Pm E W b qs ∧ cat qs n = rs
theorem Pm.below {α : Type} {E : El α} {w w' : World} {b : Nat} {ps : List (Pt α)} (h : Pm E w b ps) (hb : Below w.heap.size w w') : Pm E w' b ps :=
  ⟨Nat.lt_of_lt_of_le h.1 hb.size, fun k p hp => ⟨by rw [hb.cell (p := ⟨b, k, none⟩) h.1]; exact (h.2 k p hp).1, (h.2 k p hp).2.below hb⟩⟩
theorem stable_qF {α : Type} (E : El α) (n : Nat) (rs : List α) : Stable (qF E n rs) := fun _ _ _ ⟨b, qs, h1, h2, h3, h4⟩ hb => ⟨b, qs, h1, h2, h3.below hb, h4⟩
theorem pm_two {α : Type} {E : El α} (W : World) (p q : Pt α) (t : TypeId) (hp : Rw E W p.A p.xs) (hq : Rw E W q.A q.xs) : Pm E (W.alloc (.cells #[.slice p.A p.xs.length p.c, .slice q.A q.xs.length q.c] t)) W.heap.size [p, q] := by
  refine ⟨by simp, fun k r hr => ?_⟩
  match k, hr with
  | 0, hr => simp at hr; subst hr; exact ⟨by simp, hp.below ((Below.refl _ _).alloc (Nat.le_refl _) _)⟩
  | 1, hr => simp at hr; subst hr; exact ⟨by simp, hq.below ((Below.refl _ _).alloc (Nat.le_refl _) _)⟩
  | k + 2, hr => simp at hr
theorem pm_three {α : Type} {E : El α} (W : World) (p q s : Pt α) (t : TypeId) (hp : Rw E W p.A p.xs) (hq : Rw E W q.A q.xs) (hs : Rw E W s.A s.xs) : Pm E (W.alloc (.cells #[.slice p.A p.xs.length p.c, .slice q.A q.xs.length q.c, .slice s.A s.xs.length s.c] t)) W.heap.size [p, q, s] := by
  refine ⟨by simp, fun k r hr => ?_⟩
  match k, hr with
  | 0, hr => simp at hr; subst hr; exact ⟨by simp, hp.below ((Below.refl _ _).alloc (Nat.le_refl _) _)⟩
  | 1, hr => simp at hr; subst hr; exact ⟨by simp, hq.below ((Below.refl _ _).alloc (Nat.le_refl _) _)⟩
  | 2, hr => simp at hr; subst hr; exact ⟨by simp, hs.below ((Below.refl _ _).alloc (Nat.le_refl _) _)⟩
  | k + 3, hr => simp at hr
theorem qS_two {W : World} {A1 A2 : Option Addr} {c1 c2 : Nat} {s1 s2 : List Sg} (t : TypeId) (h1 : Rw eS W A1 s1) (h2 : Rw eS W A2 s2) : qF eS 2 (s1 ++ s2) (.slice (some ⟨W.heap.size, 0, none⟩) 2 2) (W.alloc (.cells #[.slice A1 s1.length c1, .slice A2 s2.length c2] t)) :=
  ⟨_, [⟨A1, s1, c1⟩, ⟨A2, s2, c2⟩], rfl, rfl, pm_two W ⟨A1, s1, c1⟩ ⟨A2, s2, c2⟩ t h1 h2, by simp [cat]⟩

/-- The sightings with one more, behind; of up to eight. -/
def kp (ss : List Sg) (s : Sg) : List Sg := ss.drop (ss.length - 7) ++ [s]
theorem calls_sF {f : FuncId} {args : Array Value} {W : World} {ss : List Sg} {Φ : List (Value → World → Prop)} {i : Nat} (h : Calls Try.prog f args W (SPost W ss)) (hi : fAt Φ i = sF ss) : Calls Try.prog f args W fun e w' => ∃ v, e = .returned v ∧ Below W.heap.size W w' ∧ fAt Φ i v w' := by
  rw [hi]; exact h
theorem calls_kF {f : FuncId} {args : Array Value} {W : World} {ps : List Kp} {Φ : List (Value → World → Prop)} {i : Nat} (h : Calls Try.prog f args W (KPost W ps)) (hi : fAt Φ i = kF ps) : Calls Try.prog f args W fun e w' => ∃ v, e = .returned v ∧ Below W.heap.size W w' ∧ fAt Φ i v w' := by
  rw [hi]; exact h

set_option maxRecDepth 100000 in
set_option maxHeartbeats 4000000 in
theorem keep_any (s : Sg) (A : Option Addr) (xs : List Sg) (cap : Nat) (w : World) (h : Rw eS w A xs) (hc : xs.length ≤ cap) (hx : xs.length ≤ 1000000) :
    Calls Try.prog 16 #[.slice A xs.length cap, sv s] w (SPost w (kp xs s)) := by
  obtain ⟨K, hK⟩ : ∃ K, xs.length - 7 = K := ⟨_, rfl⟩
  obtain ⟨R, hR⟩ : ∃ R, kp xs s = R := ⟨_, rfl⟩
  have hR' : xs.drop K ++ [s] = R := by rw [← hR, ← hK]; rfl
  have hRl : R.length ≤ 1000000 := by rw [← hR', List.length_append, List.length_drop, List.length_singleton]; omega
  have HSL := Lib.hid fun W => slS_l A xs.length cap K (by omega) hc W
  have HBX0 := Lib.hid (rw_one w s)
  have HB0 := Lib.hid (show Below w.heap.size w (w.alloc (Sx s)) from (Below.refl _ w).alloc (Nat.le_refl _) _)
  have HCC := Lib.hid (show ∀ W b qs, List.length qs = 2 → Pm eS W b qs → cat qs 2 = R → Calls Try.prog 29 #[.slice (some ⟨b, 0, none⟩) 2 2] W (SPost W R) from fun W b qs hl hp hct => by
    have := concatS_any qs b 2 W hp (by rw [hl, hct]; omega) (by omega)
    rw [hl, hct] at this
    exact this.mono fun e w' hq => hq.s (by omega))
  have HQ := Lib.hid (show ∀ W, Below (w.alloc (Sx s)).heap.size (w.alloc (Sx s)) W → ∀ A4 c4, Rw eS W A4 [s] → qF eS 2 R (.slice (some ⟨W.heap.size, 0, none⟩) 2 2) (W.alloc (.cells #[.slice (dA 8 A cap K) (xs.length - K) (cap - K), .slice A4 1 c4] 39)) from fun W hW A4 c4 h4 => by
    have hd := (h.below ((hx_below _ hW))).rest hc K
    have := qS_two (c1 := cap - K) (c2 := c4) 39 hd h4
    rw [List.length_drop, List.length_singleton, hR'] at this
    exact this)
  rw [hR]
  clear hR hR' hRl
  generalize xs.length = L at *
  have hM : max (0 : Int) ((L : Int) + 1 - 8) = (K : Int) := by omega
  have hKL : K ≤ L := by omega
  obtain ⟨sf, x0, x1, x2, x3, x4, x5, st⟩ := s
  simp only [sv, Sx] at HBX0 HB0 HQ ⊢
  clear hK h
  go_enter Try.func16, Try.ntmps16
  go_wp2_with fail
  refine wp_region_below [fx (.slice A L cap), fx (.int .i64 (K : Int)), fx (.slice (dA 8 A cap K) (L - K) (cap - K)), fx (.agg #[.int .i64 sf, .int .u8 x0, .int .u8 x1, .int .u8 x2, .int .u8 x3, .int .u8 x4, .int .u8 x5, .int .i64 st]), sF [⟨sf, x0, x1, x2, x3, x4, x5, st⟩], qF eS 2 R, sF R, sF R]
    (by kernel_rfl) (by kernel_rfl) (by kernel_rfl) ?_ ?_ ?_
  · simp only [List.mem_cons, List.not_mem_nil, or_false]
    rintro φ (rfl | rfl | rfl | rfl | rfl | rfl | rfl | rfl)
    all_goals first | exact stable_fx _ | exact stable_fr _ _ | exact stable_sF _ | exact stable_qF _ _ _
  · refine OgSteps.cons ?_ (OgSteps.cons ?_ (OgSteps.cons ?_ (OgSteps.cons ?_ (OgSteps.cons ?_ (OgSteps.cons ?_ (OgSteps.cons ?_ (OgSteps.cons ?_ (OgSteps.nil))))))))
    · refine OgStep.pure ?_ ?_
      · rfl
      intro u W hS hp
      refine ⟨.slice A L cap, ?_, rfl⟩
      simp only [ogMk, Act.put, List.setIfInBounds_toArray, List.set_cons_zero, List.set_cons_succ, Nat.zero_add, Nat.reduceAdd]
      simp [execOp, Act.eval, go_sem]
    · refine OgStep.pure ?_ ?_
      · rfl
      intro u W hS hp
      refine ⟨.int .i64 (K : Int), ?_, rfl⟩
      simp only [ogMk, Act.put, List.setIfInBounds_toArray, List.set_cons_zero, List.set_cons_succ, Nat.zero_add, Nat.reduceAdd]
      simp [execOp, Act.eval, go_sem]
    · refine OgStep.pure ?_ ?_
      · rfl
      intro u W hS hp
      have h0 : u 0 = .slice A L cap := hp ⟨0, .data⟩ (by simp) rfl
      have h1 : u 1 = .int .i64 (K : Int) := hp ⟨1, .data⟩ (by simp) rfl
      have R := HSL.out W
      refine ⟨.slice (dA 8 A cap K) (L - K) (cap - K), ?_, rfl⟩
      simp only [ogMk, Act.put, List.setIfInBounds_toArray, List.set_cons_zero, List.set_cons_succ, Nat.zero_add, Nat.reduceAdd]
      simp [execOp, Act.eval, go_sem, h0, h1, R]
    · refine OgStep.pure ?_ ?_
      · rfl
      intro u W hS hp
      obtain ⟨R0, R1, R2, R3, R4, R5, R6, R7⟩ := s_c8 (HBX0.out.below hS)
      refine ⟨.agg #[.int .i64 sf, .int .u8 x0, .int .u8 x1, .int .u8 x2, .int .u8 x3, .int .u8 x4, .int .u8 x5, .int .i64 st], ?_, rfl⟩
      simp only [ogMk, Act.put, List.setIfInBounds_toArray, List.set_cons_zero, List.set_cons_succ, Nat.zero_add, Nat.reduceAdd]
      simp [execOp, Act.eval, go_sem, R0, R1, R2, R3, R4, R5, R6, R7]
    · refine OgStep.made ?_ ?_
      · rfl
      intro u W hS hp
      have h3 : u 3 = .agg #[.int .i64 sf, .int .u8 x0, .int .u8 x1, .int .u8 x2, .int .u8 x3, .int .u8 x4, .int .u8 x5, .int .i64 st] := hp ⟨3, .data⟩ (by simp) rfl
      refine ⟨.slice (some ⟨W.heap.size, 0, none⟩) 1 1, _, ?_, (Below.refl _ W).alloc (Nat.le_refl _) _, sF_one W ⟨sf, x0, x1, x2, x3, x4, x5, st⟩⟩
      simp only [ogMk, Act.put, List.setIfInBounds_toArray, List.set_cons_zero, List.set_cons_succ, Nat.zero_add, Nat.reduceAdd]
      simp [execOp, Act.eval, go_sem, h3, Sx]
    · refine OgStep.made ?_ ?_
      · rfl
      intro u W hS hp
      obtain ⟨A4, c4, h4, _, _, hR4⟩ : sF [⟨sf, x0, x1, x2, x3, x4, x5, st⟩] (u 4) W := hp ⟨4, .data⟩ (by simp) rfl
      have h2 : u 2 = .slice (dA 8 A cap K) (L - K) (cap - K) := hp ⟨2, .data⟩ (by simp) rfl
      refine ⟨.slice (some ⟨W.heap.size, 0, none⟩) 2 2, _, ?_, (Below.refl _ W).alloc (Nat.le_refl _) _, HQ.out W hS A4 c4 hR4⟩
      simp only [ogMk, Act.put, List.setIfInBounds_toArray, List.set_cons_zero, List.set_cons_succ, Nat.zero_add, Nat.reduceAdd]
      rw [h2, h4]
      simp [execOp, Act.eval, go_sem]
    · refine OgStep.calls ?_ ?_
      · rfl
      intro u W hS hp
      have h5 : qF eS 2 R (u 5) W := hp ⟨5, .data⟩ (by simp) rfl
      obtain ⟨b, qs, e5, hl5, hPm, hct⟩ := h5
      refine ⟨29, #[.slice (some ⟨b, 0, none⟩) 2 2], ?_, calls_sF (HCC.out W b qs hl5 hPm hct) rfl⟩
      simp only [ogMk, Act.put, List.setIfInBounds_toArray, List.set_cons_zero, List.set_cons_succ, Nat.zero_add, Nat.reduceAdd]
      rw [e5]
      simp [execOp, Act.eval, go_sem]
    · refine OgStep.pure ?_ ?_
      · rfl
      intro u W hS hp
      have h6 : sF R (u 6) W := hp ⟨6, .data⟩ (by simp) rfl
      refine ⟨u 6, ?_, h6⟩
      simp only [ogMk, Act.put, List.setIfInBounds_toArray, List.set_cons_zero, List.set_cons_succ, Nat.zero_add, Nat.reduceAdd]
      simp [execOp, Act.eval, go_sem]
  · intro u W hS hF'
    have hF7 : sF R (u 7) W := hF' 7 (by decide)
    have hF := hF'
    have e0 : u 0 = .slice A L cap := hF 0 (by decide)
    have e1 : u 1 = .int .i64 (K : Int) := hF 1 (by decide)
    have e2 : u 2 = .slice (dA 8 A cap K) (L - K) (cap - K) := hF 2 (by decide)
    have e3 : u 3 = .agg #[.int .i64 sf, .int .u8 x0, .int .u8 x1, .int .u8 x2, .int .u8 x3, .int .u8 x4, .int .u8 x5, .int .i64 st] := hF 3 (by decide)
    simp only [ogMk, Act.put, List.setIfInBounds_toArray, List.set_cons_zero, List.set_cons_succ, Nat.zero_add, Nat.reduceAdd]
    rw [e0, e1, e2, e3]
    clear hF' e0 e1 e2 e3 hF
    go_wp2_with fail
    go_ret
    exact ⟨_, rfl, HB0.out.trans (hS.mono (by simp)), hF7⟩
end Go.Proofs.Ytcnhagcmklgpkaa
