/-
  The contracts of held.Take and held.Put. Conditions: the row lies in memory, and has up to 900 holders.
-/
import Derived.Test.YtafmcnnbeoffdaaCat
import Derived.Test.YtafmcnnbeoffdaaOg
set_option linter.unusedSimpArgs false
set_option linter.unusedVariables false
namespace Go.Proofs.Ytafmcnnbeoffdaa
open Go.RowKit

theorem own_keep {w w' : World} {base : Nat} {e : TypeId} {size : Nat} {v : Value} {n : Nat} {xs : List Value} (h : w.ownsRow base e size v n xs) (hb : Below w.heap.size w w') : w'.ownsRow base e size v n xs := by
  refine ⟨h.1, h.2.imp id ?_⟩
  rintro ⟨g, cap, cur, e1, e2, e3, r⟩
  refine ⟨g, cap, cur, e1, e2, ?_, r⟩
  rw [hb.block g (Array.getElem?_eq_some_iff.1 e3).1]
  exact e3
theorem own_base {w : World} {base B : Nat} {e : TypeId} {size : Nat} {v : Value} {n : Nat} {xs : List Value} (h : w.ownsRow base e size v n xs) (hb : B ≤ base) : w.ownsRow B e size v n xs := by
  refine ⟨h.1, h.2.imp id ?_⟩
  rintro ⟨g, cap, cur, e1, e2, e3, r⟩
  exact ⟨g, cap, cur, e1, Nat.le_trans hb e2, e3, r⟩
/-- Where the rest of a row lies. -/
def dA (A : Option Addr) (c k : Nat) : Option Addr := if c = k then A else A.map (·.add (k * 8))
theorem Hs.rest {w : World} {A : Option Addr} {xs : List Hr} (h : Hs w A xs) {c : Nat} (hc : xs.length ≤ c) (k : Nat) : Hs w (dA A c k) (xs.drop k) := by
  unfold dA
  split
  · rename_i e
    rw [List.drop_eq_nil_of_le (by omega)]
    exact Hs.nil _ _
  · cases A with
    | none =>
      have : xs = [] := by
        rcases Nat.eq_zero_or_pos xs.length with h0 | h0
        · exact List.eq_nil_of_length_eq_zero h0
        · obtain ⟨x, hx⟩ := hs_some h h0
          cases hx
      subst this
      rw [List.drop_nil]
      exact Hs.nil _ _
    | some y => exact h.drop k
theorem size33' : (Try.prog.info? 33).map (·.size) = some 8 := by kernel_rfl
theorem run_size33 (W : World) : (Go.sizeOf 33).run Try.prog W = .ok 8 W := by
  obtain ⟨i, hi, hs⟩ := Option.map_eq_some_iff.1 size33'
  rw [← hs]
  simp [Go.sizeOf, typeInfo, hi]
theorem sl_h (A : Option Addr) (n c i : Nat) (hi : i ≤ c) (W : World) : (Instr.slice 24 (.slice A n c) none (some (.int .i64 (i : Int))) none).run Try.prog W = .ok (.slice A i c) W := by
  have h1 : (i : Int) ≤ c := by omega
  have h2 : A.map (·.add (0 * 8)) = A := by cases A <;> simp [Addr.add]
  unfold Instr.slice Instr.sliceBounds Instr.sliceBound
  simp only [Sem.run_bind, run_underlying Try.underlying24, Result.andThen_ok, Sem.run_pure, run_size33, asIntOf]
  try simp only [Option.isSome_none, Bool.false_eq_true, if_false, Sem.run_bind, Sem.run_pure, Result.andThen_ok]
  rw [if_pos ⟨by omega, h1⟩]
  simp only [Sem.run_bind, Sem.run_pure, Result.andThen_ok, h2, ite_self, Nat.sub_zero, Int.toNat_natCast]
theorem sl_l (A : Option Addr) (n c k : Nat) (hk : k ≤ n) (hc : n ≤ c) (W : World) : (Instr.slice 24 (.slice A n c) (some (.int .i64 (k : Int))) none none).run Try.prog W = .ok (.slice (dA A c k) (n - k) (c - k)) W := by
  have h1 : (k : Int) ≤ n := by omega
  unfold Instr.slice Instr.sliceBounds Instr.sliceBound
  simp only [Sem.run_bind, run_underlying Try.underlying24, Result.andThen_ok, Sem.run_pure, run_size33, asIntOf]
  try simp only [Option.isSome_none, Bool.false_eq_true, if_false, Sem.run_bind, Sem.run_pure, Result.andThen_ok]
  rw [if_pos ⟨by omega, h1⟩]
  simp only [Sem.run_bind, Sem.run_pure, Result.andThen_ok, Int.toNat_natCast]
  rfl

/-- The parts, in a row of their own. -/
def pF (ps : List Pt) : Value → World → Prop := fun v W => ∃ b, v = .slice (some ⟨b, 0, none⟩) ps.length ps.length ∧ Pm W b ps
theorem Pm.below {w w' : World} {b : Nat} {ps : List Pt} (h : Pm w b ps) (hb : Below w.heap.size w w') : Pm w' b ps :=
  ⟨Nat.lt_of_lt_of_le h.1 hb.size, fun k p hp => ⟨by rw [hb.cell (p := ⟨b, k, none⟩) h.1]; exact (h.2 k p hp).1, (h.2 k p hp).2.below hb⟩⟩
theorem stable_pF (ps : List Pt) : Stable (pF ps) := fun _ _ _ ⟨b, hv, hP⟩ hb => ⟨b, hv, hP.below hb⟩
/-- A row of the call's own. -/
def oF (B : Nat) (ys : List Hr) : Value → World → Prop := fun v W => W.ownsRow B 33 8 v ys.length (hcs ys)
theorem stable_oF (B : Nat) (ys : List Hr) : Stable (oF B ys) := fun _ _ _ h hb => own_keep h hb
/-- A row of one. -/
def hF (h : Hr) : Value → World → Prop := fun v W => ∃ b, v = .slice (some ⟨b, 0, none⟩) 1 1 ∧ Hs W (some ⟨b, 0, none⟩) [h]
theorem stable_hF (h : Hr) : Stable (hF h) := fun _ _ _ ⟨b, hv, hP⟩ hb => ⟨b, hv, hP.below hb⟩
theorem pm_two (W : World) (p q : Pt) (t : TypeId) (hp : Hs W p.A p.xs) (hq : Hs W q.A q.xs) : Pm (W.alloc (.cells #[.slice p.A p.xs.length p.c, .slice q.A q.xs.length q.c] t)) W.heap.size [p, q] := by
  refine ⟨by simp, fun k r hr => ?_⟩
  match k, hr with
  | 0, hr => simp at hr; subst hr; exact ⟨by simp, hp.below ((Below.refl _ _).alloc (Nat.le_refl _) _)⟩
  | 1, hr => simp at hr; subst hr; exact ⟨by simp, hq.below ((Below.refl _ _).alloc (Nat.le_refl _) _)⟩
  | k + 2, hr => simp at hr
theorem pm_three (W : World) (p q s : Pt) (t : TypeId) (hp : Hs W p.A p.xs) (hq : Hs W q.A q.xs) (hs : Hs W s.A s.xs) : Pm (W.alloc (.cells #[.slice p.A p.xs.length p.c, .slice q.A q.xs.length q.c, .slice s.A s.xs.length s.c] t)) W.heap.size [p, q, s] := by
  refine ⟨by simp, fun k r hr => ?_⟩
  match k, hr with
  | 0, hr => simp at hr; subst hr; exact ⟨by simp, hp.below ((Below.refl _ _).alloc (Nat.le_refl _) _)⟩
  | 1, hr => simp at hr; subst hr; exact ⟨by simp, hq.below ((Below.refl _ _).alloc (Nat.le_refl _) _)⟩
  | 2, hr => simp at hr; subst hr; exact ⟨by simp, hs.below ((Below.refl _ _).alloc (Nat.le_refl _) _)⟩
  | k + 3, hr => simp at hr
theorem hs_box (W : World) (x : Hr) (hx : x.ok) : Hs (W.alloc (Hx x)) (some ⟨W.heap.size, 0, none⟩) [x] := by
  refine ⟨by simp, fun q z hq => ?_⟩
  match q, hq with
  | 0, hq =>
    simp at hq
    subst hq
    refine ⟨hx, _, rfl, fun j v hv => ?_⟩
    rw [Addr.add_mid]
    match j, hv with
    | 0, h => simp [hl] at h; subst h; simp [Hx]
    | 1, h => simp [hl] at h; subst h; simp [Hx]
    | 2, h => simp [hl] at h; subst h; simp [Hx]
    | 3, h => simp [hl] at h; subst h; simp [Hx]
    | 4, h => simp [hl] at h; subst h; simp [Hx]
    | 5, h => simp [hl] at h; subst h; simp [Hx]
    | 6, h => simp [hl] at h; subst h; simp [Hx]
    | 7, h => simp [hl] at h; subst h; simp [Hx]
    | j + 8, h => simp [hl] at h
  | q + 1, hq => simp at hq

/-- What a change hands back: a row, and a number. -/
def OutPost (w : World) (ys : List Hr) (q : Int) (e : Ending) (w' : World) : Prop :=
  ∃ A cap, e = .returned (.tuple #[.slice A ys.length cap, .int .i64 q]) ∧ ys.length ≤ cap ∧ cap ≤ maxLen ∧ Hs w' A ys ∧ Below w.heap.size w w'
theorem out_no (w w' : World) (q : Int) (hb : Below w.heap.size w w') : OutPost w [] q (.returned (.tuple #[.slice none 0 0, .int .i64 q])) w' :=
  ⟨none, 0, rfl, by simp, by unfold maxLen; omega, Hs.nil _ _, hb⟩
theorem out_yes {w w' : World} {B : Nat} {v : Value} {ys : List Hr} (h : w'.ownsRow B 33 8 v ys.length (hcs ys)) (hok : ∀ x ∈ ys, x.ok) (hn : ys.length ≤ 1000) (hb : Below w.heap.size w w') : OutPost w ys 0 (.returned (.tuple #[v, .int .i64 0])) w' := by
  obtain ⟨A, cap, rfl, hc, hm, _, hH, _⟩ := own_hs h hok (by omega)
  exact ⟨A, cap, rfl, hc, hm, hH, hb⟩

/-- The row without the holder of an address, and what is told. -/
def del (xs : List Hr) (a : Int) : List Hr := xs.take (lo xs a) ++ xs.drop (lo xs a + 1)
def takeC (xs : List Hr) (a : Int) : Int := if isAt xs a = true then 0 else 7
def takeR (xs : List Hr) (a : Int) : List Hr := if isAt xs a = true then del xs a else []
/-- The row with one more, and what is told. -/
def ins (xs : List Hr) (h : Hr) : List Hr := xs.take (lo xs h.a) ++ [h] ++ xs.drop (lo xs h.a)
def putC (xs : List Hr) (h : Hr) : Int := if mayB h.T = false then 12 else if isAt xs h.a = true then 6 else if 48 ≤ xs.length then 4 else 0
def putR (xs : List Hr) (h : Hr) : List Hr := if putC xs h = 0 then ins xs h else []
theorem hs_oks {w : World} {A : Option Addr} {xs : List Hr} (h : Hs w A xs) : ∀ x ∈ xs, x.ok := by
  intro x hx
  obtain ⟨q, hq, rfl⟩ := List.mem_iff_getElem.1 hx
  exact h.ok (List.getElem?_eq_getElem hq)
theorem del_sub {xs : List Hr} {a : Int} {x : Hr} (h : x ∈ del xs a) : x ∈ xs := by
  unfold del at h
  rcases List.mem_append.1 h with h | h
  · exact List.mem_of_mem_take h
  · exact List.mem_of_mem_drop h
theorem ins_sub {xs : List Hr} {h x : Hr} (hx : x ∈ ins xs h) : x = h ∨ x ∈ xs := by
  unfold ins at hx
  rcases List.mem_append.1 hx with hx | hx
  · rcases List.mem_append.1 hx with hx | hx
    · exact .inr (List.mem_of_mem_take hx)
    · exact .inl (by simpa using hx)
  · exact .inr (List.mem_of_mem_drop hx)

set_option maxRecDepth 100000 in
set_option maxHeartbeats 4000000 in
theorem take_any (a : Int) (A : Option Addr) (xs : List Hr) (cap : Nat) (w : World) (h : Hs w A xs) (hc : xs.length ≤ cap) (hx9 : xs.length ≤ 900) (ha0 : 0 ≤ a) (ha1 : a < 4294967296) :
    Calls Try.prog 12 #[.slice A xs.length cap, .int .u32 a] w (OutPost w (takeR xs a) (takeC xs a)) := by
  have hle := lo_le a xs
  have hln := h.1
  have R := Lib.hid h
  have HP := Lib.hid (place_any a A xs cap w h ha0 ha1)
  cases hB : isAt xs a
  · have HT := Lib.hid (show takeR xs a = [] ∧ takeC xs a = 7 by simp [takeR, takeC, hB])
    rw [hB] at HP
    rw [HT.out.1, HT.out.2]
    clear hB h HT
    generalize xs.length = L at *
    generalize lo xs a = P at *
    go_enter Try.func12, Try.ntmps12
    go_wp2_with fail
    refine HP.out.mono ?_
    rintro e w1 ⟨rfl, n1, hw1⟩
    have B1 := Lib.hid (show Below w.heap.size w w1 from hw1 ▸ bdrewN (Below.refl _ _) n1)
    clear hw1
    go_wp2_with fail
    go_ret2
    exact out_no w w1 7 B1.out
  · obtain ⟨x, hxx, hxa, hlt⟩ := isAt_some hB
    have HT := Lib.hid (show takeR xs a = del xs a ∧ takeC xs a = 0 by simp [takeR, takeC, hB])
    rw [hB] at HP
    rw [HT.out.1, HT.out.2]
    obtain ⟨y, rfl⟩ := hs_some h (by omega)
    obtain ⟨ys, hys⟩ : ∃ ys, del xs a = ys := ⟨_, rfl⟩
    obtain ⟨ps, hps⟩ : ∃ ps : List Pt, ps = [⟨some y, xs.take (lo xs a), cap⟩, ⟨dA (some y) cap (lo xs a + 1), xs.drop (lo xs a + 1), cap - (lo xs a + 1)⟩] := ⟨_, rfl⟩
    have e1 : (xs.take (lo xs a)).length = lo xs a := by rw [List.length_take]; omega
    have e2 : (xs.drop (lo xs a + 1)).length = xs.length - (lo xs a + 1) := by rw [List.length_drop]
    have hcat : cat ps ps.length = ys := by rw [← hys, hps]; simp [cat, del]
    have hyl : ys.length ≤ 1000 := by rw [← hys]; unfold del; rw [List.length_append, e1, e2]; omega
    have hok : ∀ z ∈ ys, z.ok := fun z hz => hs_oks h z (del_sub (hys ▸ hz))
    have HPM := Lib.hid (show ∀ W, Below w.heap.size w W → pF ps (.slice (some ⟨W.heap.size, 0, none⟩) 2 2) (W.alloc (.cells #[.slice (some y) (lo xs a) cap, .slice (dA (some y) cap (lo xs a + 1)) (xs.length - (lo xs a + 1)) (cap - (lo xs a + 1))] 24)) from fun W hW => by
      subst hps
      have hH := h.below hW
      have := pm_two W ⟨some y, xs.take (lo xs a), cap⟩ ⟨dA (some y) cap (lo xs a + 1), xs.drop (lo xs a + 1), cap - (lo xs a + 1)⟩ 24 (hH.take _) (hH.rest hc _)
      dsimp only at this
      rw [e1, e2] at this
      exact ⟨_, rfl, this⟩)
    have HCC := Lib.hid (show ∀ W, Below w.heap.size w W → ∀ b, Pm W b ps → Calls Try.prog 26 #[.slice (some ⟨b, 0, none⟩) 2 2] W fun e w' => ∃ v, e = .returned v ∧ Below W.heap.size W w' ∧ oF w.heap.size ys v w' from fun W hW b hb => by
      have := concat_any ps b 2 W hb (by rw [hcat]; exact hyl) (by rw [hps]; simp)
      rw [hcat, show ps.length = 2 by rw [hps]; rfl] at this
      refine this.mono ?_
      rintro e w' ⟨v, he, ho, hbb⟩
      exact ⟨v, he, hbb, own_base ho hW.size⟩)
    have HSH := Lib.hid (fun W => sl_h (some y) xs.length cap (lo xs a) (by omega) W)
    have HSL := Lib.hid (fun W => sl_l (some y) xs.length cap (lo xs a + 1) (by omega) hc W)
    have HPL := Lib.hid (show ps.length = 2 by rw [hps]; rfl)
    have HOK := Lib.hid hok
    have HYL := Lib.hid hyl
    rw [hys]
    have HW := Lib.hid (show IntKind.i64.wrap ((lo xs a : Int) + 1) = (lo xs a : Int) + 1 by rw [IntKind.wrap_i64]; omega)
    clear hps hcat hys hok hyl e1 e2 h hxx hxa HT hB
    generalize xs.length = L at *
    generalize lo xs a = P at *
    go_enter Try.func12, Try.ntmps12
    go_wp2_with fail
    refine HP.out.mono ?_
    rintro e w1 ⟨rfl, n1, hw1⟩
    have HB1 := Lib.hid (show Below w.heap.size w w1 from hw1 ▸ bdrewN (Below.refl _ _) n1)
    clear hw1
    go_wp2_with fail
    refine wp_region_below [fx (.slice (some y) L cap), fx (.int .i64 (P : Int)), fx (.slice (some y) P cap), fx (.slice (some y) L cap), fx (.int .i64 (P : Int)), fx (.int .i64 ((P + 1 : Nat) : Int)), fx (.slice (dA (some y) cap (P + 1)) (L - (P + 1)) (cap - (P + 1))), pF ps, oF w.heap.size ys, oF w.heap.size ys, fx (.int .i64 0)]
      (by kernel_rfl) (by kernel_rfl) (by kernel_rfl) ?_ ?_ ?_
    · simp only [List.mem_cons, List.not_mem_nil, or_false]
      rintro φ (rfl | rfl | rfl | rfl | rfl | rfl | rfl | rfl | rfl | rfl | rfl)
      all_goals first | exact stable_fx _ | exact stable_fr _ _ | exact stable_pF _ | exact stable_oF _ _
    · refine OgSteps.cons ?_ (OgSteps.cons ?_ (OgSteps.cons ?_ (OgSteps.cons ?_ (OgSteps.cons ?_ (OgSteps.cons ?_ (OgSteps.cons ?_ (OgSteps.cons ?_ (OgSteps.cons ?_ (OgSteps.cons ?_ (OgSteps.cons ?_ (OgSteps.nil)))))))))))
      · refine OgStep.pure ?_ ?_
        · rfl
        intro u W hS hp
        refine ⟨.slice (some y) L cap, ?_, rfl⟩
        simp only [ogMk, Act.put, List.setIfInBounds_toArray, List.set_cons_zero, List.set_cons_succ, Nat.zero_add, Nat.reduceAdd]
        simp [execOp, Act.eval, go_sem]
      · refine OgStep.pure ?_ ?_
        · rfl
        intro u W hS hp
        refine ⟨.int .i64 (P : Int), ?_, rfl⟩
        simp only [ogMk, Act.put, List.setIfInBounds_toArray, List.set_cons_zero, List.set_cons_succ, Nat.zero_add, Nat.reduceAdd]
        simp [execOp, Act.eval, go_sem]
      · refine OgStep.pure ?_ ?_
        · rfl
        intro u W hS hp
        have h0 : u 0 = .slice (some y) L cap := hp ⟨0, .data⟩ (by simp) rfl
        have h1 : u 1 = .int .i64 (P : Int) := hp ⟨1, .data⟩ (by simp) rfl
        have R := HSH.out W
        refine ⟨.slice (some y) P cap, ?_, rfl⟩
        simp only [ogMk, Act.put, List.setIfInBounds_toArray, List.set_cons_zero, List.set_cons_succ, Nat.zero_add, Nat.reduceAdd]
        simp [execOp, Act.eval, go_sem, h0, h1, R]
      · refine OgStep.pure ?_ ?_
        · rfl
        intro u W hS hp
        refine ⟨.slice (some y) L cap, ?_, rfl⟩
        simp only [ogMk, Act.put, List.setIfInBounds_toArray, List.set_cons_zero, List.set_cons_succ, Nat.zero_add, Nat.reduceAdd]
        simp [execOp, Act.eval, go_sem]
      · refine OgStep.pure ?_ ?_
        · rfl
        intro u W hS hp
        refine ⟨.int .i64 (P : Int), ?_, rfl⟩
        simp only [ogMk, Act.put, List.setIfInBounds_toArray, List.set_cons_zero, List.set_cons_succ, Nat.zero_add, Nat.reduceAdd]
        simp [execOp, Act.eval, go_sem]
      · refine OgStep.pure ?_ ?_
        · rfl
        intro u W hS hp
        have h4 : u 4 = .int .i64 (P : Int) := hp ⟨4, .data⟩ (by simp) rfl
        have R := HW.out
        refine ⟨.int .i64 ((P + 1 : Nat) : Int), ?_, rfl⟩
        simp only [ogMk, Act.put, List.setIfInBounds_toArray, List.set_cons_zero, List.set_cons_succ, Nat.zero_add, Nat.reduceAdd]
        simp [execOp, Act.eval, go_sem, h4, R]
      · refine OgStep.pure ?_ ?_
        · rfl
        intro u W hS hp
        have h3 : u 3 = .slice (some y) L cap := hp ⟨3, .data⟩ (by simp) rfl
        have h5 : u 5 = .int .i64 ((P + 1 : Nat) : Int) := hp ⟨5, .data⟩ (by simp) rfl
        have R := HSL.out W
        rw [Int.natCast_add, Int.natCast_one] at R
        refine ⟨.slice (dA (some y) cap (P + 1)) (L - (P + 1)) (cap - (P + 1)), ?_, rfl⟩
        simp only [ogMk, Act.put, List.setIfInBounds_toArray, List.set_cons_zero, List.set_cons_succ, Nat.zero_add, Nat.reduceAdd]
        simp [execOp, Act.eval, go_sem, h3, h5, R]
      · refine OgStep.made ?_ ?_
        · rfl
        intro u W hS hp
        have h2 : u 2 = .slice (some y) P cap := hp ⟨2, .data⟩ (by simp) rfl
        have h6 : u 6 = .slice (dA (some y) cap (P + 1)) (L - (P + 1)) (cap - (P + 1)) := hp ⟨6, .data⟩ (by simp) rfl
        refine ⟨.slice (some ⟨W.heap.size, 0, none⟩) 2 2, _, ?_, (Below.refl _ W).alloc (Nat.le_refl _) _, HPM.out W (HB1.out.trans (hS.mono HB1.out.size))⟩
        simp only [ogMk, Act.put, List.setIfInBounds_toArray, List.set_cons_zero, List.set_cons_succ, Nat.zero_add, Nat.reduceAdd]
        simp [execOp, Act.eval, go_sem, h2, h6]
      · refine OgStep.calls ?_ ?_
        · rfl
        intro u W hS hp
        obtain ⟨b, h7, hPm⟩ : pF ps (u 7) W := hp ⟨7, .data⟩ (by simp) rfl
        refine ⟨26, #[.slice (some ⟨b, 0, none⟩) 2 2], ?_, HCC.out W (HB1.out.trans (hS.mono HB1.out.size)) b hPm⟩
        simp only [ogMk, Act.put, List.setIfInBounds_toArray, List.set_cons_zero, List.set_cons_succ, Nat.zero_add, Nat.reduceAdd]
        rw [h7, HPL.out]
        simp [execOp, Act.eval, go_sem]
      · refine OgStep.pure ?_ ?_
        · rfl
        intro u W hS hp
        have h8 : oF w.heap.size ys (u 8) W := hp ⟨8, .data⟩ (by simp) rfl
        refine ⟨u 8, ?_, h8⟩
        simp only [ogMk, Act.put, List.setIfInBounds_toArray, List.set_cons_zero, List.set_cons_succ, Nat.zero_add, Nat.reduceAdd]
        simp [execOp, Act.eval, go_sem]
      · refine OgStep.pure ?_ ?_
        · rfl
        intro u W hS hp
        refine ⟨.int .i64 0, ?_, rfl⟩
        simp only [ogMk, Act.put, List.setIfInBounds_toArray, List.set_cons_zero, List.set_cons_succ, Nat.zero_add, Nat.reduceAdd]
        simp [execOp, Act.eval, go_sem]
    · intro u W hS hF'
      have hF9 : oF w.heap.size ys (u 9) W := hF' 9 (by decide)
      have hF := hF'
      have e0 : u 0 = .slice (some y) L cap := hF 0 (by decide)
      have e1 : u 1 = .int .i64 (P : Int) := hF 1 (by decide)
      have e2 : u 2 = .slice (some y) P cap := hF 2 (by decide)
      have e3 : u 3 = .slice (some y) L cap := hF 3 (by decide)
      have e4 : u 4 = .int .i64 (P : Int) := hF 4 (by decide)
      have e5 : u 5 = .int .i64 ((P + 1 : Nat) : Int) := hF 5 (by decide)
      have e6 : u 6 = .slice (dA (some y) cap (P + 1)) (L - (P + 1)) (cap - (P + 1)) := hF 6 (by decide)
      have e10 : u 10 = .int .i64 0 := hF 10 (by decide)
      simp only [ogMk, Act.put, List.setIfInBounds_toArray, List.set_cons_zero, List.set_cons_succ, Nat.zero_add, Nat.reduceAdd]
      rw [e0, e1, e2, e3, e4, e5, e6, e10]
      clear hF' e0 e1 e2 e3 e4 e5 e6 e10 hF
      go_wp2_with fail
      go_ret2
      exact out_yes (hF9 : W.ownsRow w.heap.size 33 8 (u 9) ys.length (hcs ys)) HOK.out HYL.out (HB1.out.trans (hS.mono HB1.out.size))

/-- The parts, one of them wherever it lies. -/
def pG (ps : Nat → List Pt) : Value → World → Prop := fun v W => ∃ g, pF (ps g) v W
theorem stable_pG (ps : Nat → List Pt) : Stable (pG ps) := fun _ _ _ ⟨g, h⟩ hb => ⟨g, stable_pF _ _ _ _ h hb⟩
theorem hs_c8 {W : World} {b : Nat} {x : Hr} (h : Hs W (some ⟨b, 0, none⟩) [x]) : W.cell? ⟨b, 0, none⟩ = some (.int .u32 x.a) ∧ W.cell? ⟨b, 1, none⟩ = some (.string x.T) ∧ W.cell? ⟨b, 2, none⟩ = some (.int .u8 x.m0) ∧ W.cell? ⟨b, 3, none⟩ = some (.int .u8 x.m1) ∧ W.cell? ⟨b, 4, none⟩ = some (.int .u8 x.m2) ∧ W.cell? ⟨b, 5, none⟩ = some (.int .u8 x.m3) ∧ W.cell? ⟨b, 6, none⟩ = some (.int .u8 x.m4) ∧ W.cell? ⟨b, 7, none⟩ = some (.int .u8 x.m5) := by
  have H : ∀ j v, (hl x)[j]? = some v → W.cell? ⟨b, j, none⟩ = some v := fun j v hv => by
    have := h.at (q := 0) (x := x) rfl j v hv
    rw [show ((⟨b, 0, none⟩ : Addr).add (0 * 8)).add j = ⟨b, j, none⟩ by rw [show (0 * 8 : Nat) = 0 from rfl, show (⟨b, 0, none⟩ : Addr).add 0 = ⟨b, 0, none⟩ from rfl, Addr.add_mid, Nat.zero_add]] at this
    exact this
  exact ⟨H 0 _ rfl, H 1 _ rfl, H 2 _ rfl, H 3 _ rfl, H 4 _ rfl, H 5 _ rfl, H 6 _ rfl, H 7 _ rfl⟩

set_option maxRecDepth 100000 in
set_option maxHeartbeats 4000000 in
theorem put_any (hh : Hr) (A : Option Addr) (xs : List Hr) (cap : Nat) (w : World) (hho : hh.ok) (h : Hs w A xs) (hc : xs.length ≤ cap) (hx9 : xs.length ≤ 900) :
    Calls Try.prog 13 #[.slice A xs.length cap, hv hh] w (OutPost w (putR xs hh) (putC xs hh)) := by
  have ha0 := hho.1
  have ha1 := hho.2.1
  have hle := lo_le hh.a xs
  have hln := h.1
  have R := Lib.hid h
  have HHO := Lib.hid hho
  have HP := Lib.hid (place_any hh.a A xs cap (w.alloc (Hx hh)) (h.below ((Below.refl _ w).alloc (Nat.le_refl _) _)) ha0 ha1)
  have HM := Lib.hid (may_any hh.T (w.alloc (Hx hh)) hho.2.2)
  have HBX0 := Lib.hid (hs_box w hh hho)
  have HBB0 := Lib.hid (show Below w.heap.size w (w.alloc (Hx hh)) from (Below.refl _ w).alloc (Nat.le_refl _) _)
  cases hY : mayB hh.T
  · have HT := Lib.hid (show putR xs hh = [] ∧ putC xs hh = 12 by simp [putR, putC, hY])
    rw [hY] at HM
    rw [HT.out.1, HT.out.2]
    clear hY h HT HP
    generalize xs.length = L at *
    obtain ⟨ha, hT, x0, x1, x2, x3, x4, x5⟩ := hh
    simp only [hv, Hx] at HM HBB0 ⊢
    go_enter Try.func13, Try.ntmps13
    go_wp2_with fail
    refine HM.out.mono ?_
    rintro e w1 ⟨rfl, rfl⟩
    go_wp2_with fail
    go_ret2
    exact out_no w _ 12 HBB0.out
  · rw [hY] at HM
    cases hB : isAt xs hh.a
    · rw [hB] at HP
      by_cases h48 : 48 ≤ xs.length
      · have HT := Lib.hid (show putR xs hh = [] ∧ putC xs hh = 4 by simp [putR, putC, hY, hB, h48])
        rw [HT.out.1, HT.out.2]
        clear hY hB h HT
        generalize xs.length = L at *
        generalize lo xs hh.a = P at *
        obtain ⟨ha, hT, x0, x1, x2, x3, x4, x5⟩ := hh
        simp only [hv, Hx] at HM HBB0 HP ⊢
        have h48' : (48 : Int) ≤ L := by omega
        go_enter Try.func13, Try.ntmps13
        go_wp2_with fail
        refine HM.out.mono ?_
        rintro e w1 ⟨rfl, rfl⟩
        go_wp2_with fail
        refine HP.out.mono ?_
        rintro e w1 ⟨rfl, n1, rfl⟩
        have HB1 := Lib.hid (bdrewN HBB0.out n1)
        go_wp2_with fail
        go_ret2
        exact out_no w _ 4 HB1.out
      · have HT := Lib.hid (show putR xs hh = ins xs hh ∧ putC xs hh = 0 by
          have e : putC xs hh = 0 := by simp [putC, hY, hB]; omega
          exact ⟨by simp [putR, e], e⟩)
        rw [HT.out.1, HT.out.2]
        obtain ⟨ys, hys⟩ : ∃ ys, ins xs hh = ys := ⟨_, rfl⟩
        obtain ⟨ps, hps⟩ : ∃ ps : Nat → List Pt, ps = fun g => [⟨A, xs.take (lo xs hh.a), cap⟩, ⟨some ⟨g, 0, none⟩, [hh], 1⟩, ⟨dA A cap (lo xs hh.a), xs.drop (lo xs hh.a), cap - lo xs hh.a⟩] := ⟨_, rfl⟩
        have e1 : (xs.take (lo xs hh.a)).length = lo xs hh.a := by rw [List.length_take]; omega
        have e2 : (xs.drop (lo xs hh.a)).length = xs.length - lo xs hh.a := by rw [List.length_drop]
        have hcat : ∀ g, cat (ps g) (ps g).length = ys := fun g => by rw [← hys, hps]; simp [cat, ins]
        have hyl : ys.length ≤ 1000 := by rw [← hys]; unfold ins; rw [List.length_append, List.length_append, e1, e2, List.length_singleton]; omega
        have hok : ∀ z ∈ ys, z.ok := fun z hz => by
          rcases ins_sub (hys ▸ hz : z ∈ ins xs hh) with rfl | hz
          · exact hho
          · exact hs_oks h z hz
        have HPM := Lib.hid (show ∀ W, Below w.heap.size w W → ∀ g, Hs W (some ⟨g, 0, none⟩) [hh] → pG ps (.slice (some ⟨W.heap.size, 0, none⟩) 3 3) (W.alloc (.cells #[.slice A (lo xs hh.a) cap, .slice (some ⟨g, 0, none⟩) 1 1, .slice (dA A cap (lo xs hh.a)) (xs.length - lo xs hh.a) (cap - lo xs hh.a)] 24)) from fun W hW g hg => by
          subst hps
          have hH := h.below hW
          have := pm_three W ⟨A, xs.take (lo xs hh.a), cap⟩ ⟨some ⟨g, 0, none⟩, [hh], 1⟩ ⟨dA A cap (lo xs hh.a), xs.drop (lo xs hh.a), cap - lo xs hh.a⟩ 24 (hH.take _) hg (hH.rest hc _)
          dsimp only at this
          rw [e1, e2] at this
          exact ⟨g, _, rfl, this⟩)
        have HCC := Lib.hid (show ∀ W, Below w.heap.size w W → ∀ g b, Pm W b (ps g) → Calls Try.prog 26 #[.slice (some ⟨b, 0, none⟩) 3 3] W fun e w' => ∃ v, e = .returned v ∧ Below W.heap.size W w' ∧ oF w.heap.size ys v w' from fun W hW g b hb => by
          have := concat_any (ps g) b 3 W hb (by rw [hcat]; exact hyl) (by rw [hps]; simp)
          rw [hcat, show (ps g).length = 3 by rw [hps]; rfl] at this
          refine this.mono ?_
          rintro e w' ⟨v, he, ho, hbb⟩
          exact ⟨v, he, hbb, own_base ho hW.size⟩)
        have HSH := Lib.hid (fun W => sl_h A xs.length cap (lo xs hh.a) (by omega) W)
        have HSL := Lib.hid (fun W => sl_l A xs.length cap (lo xs hh.a) hle hc W)
        have HPL := Lib.hid (show ∀ g, (ps g).length = 3 by intro g; rw [hps]; rfl)
        have HOK := Lib.hid hok
        have HYL := Lib.hid hyl
        rw [hys]
        clear hps hcat hys hok hyl e1 e2 h HT hB hY
        generalize xs.length = L at *
        generalize lo xs hh.a = P at *
        obtain ⟨ha, hT, x0, x1, x2, x3, x4, x5⟩ := hh
        simp only [hv, Hx] at HM HBB0 HP HBX0 ⊢
        have h48' : ¬ (48 : Int) ≤ L := by omega
        go_enter Try.func13, Try.ntmps13
        go_wp2_with fail
        refine HM.out.mono ?_
        rintro e w1 ⟨rfl, rfl⟩
        go_wp2_with fail
        refine HP.out.mono ?_
        rintro e w1 ⟨rfl, n1, hw1⟩
        have HB1 := Lib.hid (show Below w.heap.size w w1 from hw1 ▸ bdrewN HBB0.out n1)
        have HBX := Lib.hid (show Hs w1 (some ⟨w.heap.size, 0, none⟩) [⟨ha, hT, x0, x1, x2, x3, x4, x5⟩] from hw1 ▸ HBX0.out.drewN n1)
        clear hw1 HBX0 HM HP
        go_wp2_with fail
        refine wp_region_below [fx (.slice A L cap), fx (.int .i64 (P : Int)), fx (.slice A P cap), fx (.agg #[.int .u32 ha, .string hT, .int .u8 x0, .int .u8 x1, .int .u8 x2, .int .u8 x3, .int .u8 x4, .int .u8 x5]), hF ⟨ha, hT, x0, x1, x2, x3, x4, x5⟩, fx (.slice A L cap), fx (.int .i64 (P : Int)), fx (.slice (dA A cap P) (L - P) (cap - P)), pG ps, oF w.heap.size ys, oF w.heap.size ys, fx (.int .i64 0)]
          (by kernel_rfl) (by kernel_rfl) (by kernel_rfl) ?_ ?_ ?_
        · simp only [List.mem_cons, List.not_mem_nil, or_false]
          rintro φ (rfl | rfl | rfl | rfl | rfl | rfl | rfl | rfl | rfl | rfl | rfl | rfl)
          all_goals first | exact stable_fx _ | exact stable_fr _ _ | exact stable_pG _ | exact stable_oF _ _ | exact stable_hF _
        · refine OgSteps.cons ?_ (OgSteps.cons ?_ (OgSteps.cons ?_ (OgSteps.cons ?_ (OgSteps.cons ?_ (OgSteps.cons ?_ (OgSteps.cons ?_ (OgSteps.cons ?_ (OgSteps.cons ?_ (OgSteps.cons ?_ (OgSteps.cons ?_ (OgSteps.cons ?_ (OgSteps.nil))))))))))))
          · refine OgStep.pure ?_ ?_
            · rfl
            intro u W hS hp
            refine ⟨.slice A L cap, ?_, rfl⟩
            simp only [ogMk, Act.put, List.setIfInBounds_toArray, List.set_cons_zero, List.set_cons_succ, Nat.zero_add, Nat.reduceAdd]
            simp [execOp, Act.eval, go_sem]
          · refine OgStep.pure ?_ ?_
            · rfl
            intro u W hS hp
            refine ⟨.int .i64 (P : Int), ?_, rfl⟩
            simp only [ogMk, Act.put, List.setIfInBounds_toArray, List.set_cons_zero, List.set_cons_succ, Nat.zero_add, Nat.reduceAdd]
            simp [execOp, Act.eval, go_sem]
          · refine OgStep.pure ?_ ?_
            · rfl
            intro u W hS hp
            have h0 : u 0 = .slice A L cap := hp ⟨0, .data⟩ (by simp) rfl
            have h1 : u 1 = .int .i64 (P : Int) := hp ⟨1, .data⟩ (by simp) rfl
            have R := HSH.out W
            refine ⟨.slice A P cap, ?_, rfl⟩
            simp only [ogMk, Act.put, List.setIfInBounds_toArray, List.set_cons_zero, List.set_cons_succ, Nat.zero_add, Nat.reduceAdd]
            simp [execOp, Act.eval, go_sem, h0, h1, R]
          · refine OgStep.pure ?_ ?_
            · rfl
            intro u W hS hp
            obtain ⟨R0, R1, R2, R3, R4, R5, R6, R7⟩ := hs_c8 (HBX.out.below hS)
            refine ⟨.agg #[.int .u32 ha, .string hT, .int .u8 x0, .int .u8 x1, .int .u8 x2, .int .u8 x3, .int .u8 x4, .int .u8 x5], ?_, rfl⟩
            simp only [ogMk, Act.put, List.setIfInBounds_toArray, List.set_cons_zero, List.set_cons_succ, Nat.zero_add, Nat.reduceAdd]
            simp [execOp, Act.eval, go_sem, R0, R1, R2, R3, R4, R5, R6, R7]
          · refine OgStep.made ?_ ?_
            · rfl
            intro u W hS hp
            have h3 : u 3 = .agg #[.int .u32 ha, .string hT, .int .u8 x0, .int .u8 x1, .int .u8 x2, .int .u8 x3, .int .u8 x4, .int .u8 x5] := hp ⟨3, .data⟩ (by simp) rfl
            refine ⟨.slice (some ⟨W.heap.size, 0, none⟩) 1 1, _, ?_, (Below.refl _ W).alloc (Nat.le_refl _) _, ⟨_, rfl, hs_box W ⟨ha, hT, x0, x1, x2, x3, x4, x5⟩ HHO.out⟩⟩
            simp only [ogMk, Act.put, List.setIfInBounds_toArray, List.set_cons_zero, List.set_cons_succ, Nat.zero_add, Nat.reduceAdd]
            simp [execOp, Act.eval, go_sem, h3, Hx]
          · refine OgStep.pure ?_ ?_
            · rfl
            intro u W hS hp
            refine ⟨.slice A L cap, ?_, rfl⟩
            simp only [ogMk, Act.put, List.setIfInBounds_toArray, List.set_cons_zero, List.set_cons_succ, Nat.zero_add, Nat.reduceAdd]
            simp [execOp, Act.eval, go_sem]
          · refine OgStep.pure ?_ ?_
            · rfl
            intro u W hS hp
            refine ⟨.int .i64 (P : Int), ?_, rfl⟩
            simp only [ogMk, Act.put, List.setIfInBounds_toArray, List.set_cons_zero, List.set_cons_succ, Nat.zero_add, Nat.reduceAdd]
            simp [execOp, Act.eval, go_sem]
          · refine OgStep.pure ?_ ?_
            · rfl
            intro u W hS hp
            have h5 : u 5 = .slice A L cap := hp ⟨5, .data⟩ (by simp) rfl
            have h6 : u 6 = .int .i64 (P : Int) := hp ⟨6, .data⟩ (by simp) rfl
            have R := HSL.out W
            refine ⟨.slice (dA A cap P) (L - P) (cap - P), ?_, rfl⟩
            simp only [ogMk, Act.put, List.setIfInBounds_toArray, List.set_cons_zero, List.set_cons_succ, Nat.zero_add, Nat.reduceAdd]
            simp [execOp, Act.eval, go_sem, h5, h6, R]
          · refine OgStep.made ?_ ?_
            · rfl
            intro u W hS hp
            obtain ⟨b4, h4, hH4⟩ : hF ⟨ha, hT, x0, x1, x2, x3, x4, x5⟩ (u 4) W := hp ⟨4, .data⟩ (by simp) rfl
            have h2 : u 2 = .slice A P cap := hp ⟨2, .data⟩ (by simp) rfl
            have h7 : u 7 = .slice (dA A cap P) (L - P) (cap - P) := hp ⟨7, .data⟩ (by simp) rfl
            refine ⟨.slice (some ⟨W.heap.size, 0, none⟩) 3 3, _, ?_, (Below.refl _ W).alloc (Nat.le_refl _) _, HPM.out W (HB1.out.trans (hS.mono HB1.out.size)) b4 hH4⟩
            simp only [ogMk, Act.put, List.setIfInBounds_toArray, List.set_cons_zero, List.set_cons_succ, Nat.zero_add, Nat.reduceAdd]
            rw [h2, h4, h7]
            simp [execOp, Act.eval, go_sem]
          · refine OgStep.calls ?_ ?_
            · rfl
            intro u W hS hp
            obtain ⟨b4, b, h8, hPm⟩ : pG ps (u 8) W := hp ⟨8, .data⟩ (by simp) rfl
            refine ⟨26, #[.slice (some ⟨b, 0, none⟩) 3 3], ?_, HCC.out W (HB1.out.trans (hS.mono HB1.out.size)) b4 b hPm⟩
            simp only [ogMk, Act.put, List.setIfInBounds_toArray, List.set_cons_zero, List.set_cons_succ, Nat.zero_add, Nat.reduceAdd]
            rw [h8, HPL.out b4]
            simp [execOp, Act.eval, go_sem]
          · refine OgStep.pure ?_ ?_
            · rfl
            intro u W hS hp
            have h9 : oF w.heap.size ys (u 9) W := hp ⟨9, .data⟩ (by simp) rfl
            refine ⟨u 9, ?_, h9⟩
            simp only [ogMk, Act.put, List.setIfInBounds_toArray, List.set_cons_zero, List.set_cons_succ, Nat.zero_add, Nat.reduceAdd]
            simp [execOp, Act.eval, go_sem]
          · refine OgStep.pure ?_ ?_
            · rfl
            intro u W hS hp
            refine ⟨.int .i64 0, ?_, rfl⟩
            simp only [ogMk, Act.put, List.setIfInBounds_toArray, List.set_cons_zero, List.set_cons_succ, Nat.zero_add, Nat.reduceAdd]
            simp [execOp, Act.eval, go_sem]
        · intro u W hS hF'
          have hF10 : oF w.heap.size ys (u 10) W := hF' 10 (by decide)
          have hF := hF'
          have e0 : u 0 = .slice A L cap := hF 0 (by decide)
          have e1 : u 1 = .int .i64 (P : Int) := hF 1 (by decide)
          have e2 : u 2 = .slice A P cap := hF 2 (by decide)
          have e3 : u 3 = .agg #[.int .u32 ha, .string hT, .int .u8 x0, .int .u8 x1, .int .u8 x2, .int .u8 x3, .int .u8 x4, .int .u8 x5] := hF 3 (by decide)
          have e5 : u 5 = .slice A L cap := hF 5 (by decide)
          have e6 : u 6 = .int .i64 (P : Int) := hF 6 (by decide)
          have e7 : u 7 = .slice (dA A cap P) (L - P) (cap - P) := hF 7 (by decide)
          have e11 : u 11 = .int .i64 0 := hF 11 (by decide)
          simp only [ogMk, Act.put, List.setIfInBounds_toArray, List.set_cons_zero, List.set_cons_succ, Nat.zero_add, Nat.reduceAdd]
          rw [e0, e1, e2, e3, e5, e6, e7, e11]
          clear hF' e0 e1 e2 e3 e5 e6 e7 e11 hF
          go_wp2_with fail
          go_ret2
          exact out_yes (hF10 : W.ownsRow w.heap.size 33 8 (u 10) ys.length (hcs ys)) HOK.out HYL.out (HB1.out.trans (hS.mono HB1.out.size))
    · rw [hB] at HP
      have HT := Lib.hid (show putR xs hh = [] ∧ putC xs hh = 6 by simp [putR, putC, hY, hB])
      rw [HT.out.1, HT.out.2]
      clear hY hB h HT
      generalize xs.length = L at *
      generalize lo xs hh.a = P at *
      obtain ⟨ha, hT, x0, x1, x2, x3, x4, x5⟩ := hh
      simp only [hv, Hx] at HM HBB0 HP ⊢
      go_enter Try.func13, Try.ntmps13
      go_wp2_with fail
      refine HM.out.mono ?_
      rintro e w1 ⟨rfl, rfl⟩
      go_wp2_with fail
      refine HP.out.mono ?_
      rintro e w1 ⟨rfl, n1, rfl⟩
      have HB1 := Lib.hid (bdrewN HBB0.out n1)
      go_wp2_with fail
      go_ret2
      exact out_no w _ 6 HB1.out
end Go.Proofs.Ytafmcnnbeoffdaa
