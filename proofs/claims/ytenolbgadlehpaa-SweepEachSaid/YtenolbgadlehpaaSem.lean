/-
  Which rows of sweeps are right, in plain words: that both accounts say the same, and that changes and plans keep it. No condition but those that each theorem names.
-/
import Derived.Test.YtenolbgadlehpaaPlan
import Derived.Test.YtenolbgadlehpaaLrt
set_option linter.unusedSimpArgs false
set_option linter.unusedVariables false
namespace Go.Proofs.Ytenolbgadlehpaa
open Go.RowKit

theorem p2_24 {b : Int} (h0 : 0 ≤ b) (h1 : b ≤ 32) : p2 b ≤ 256 ↔ 24 ≤ b := by
  constructor
  · intro h
    by_cases hb : 24 ≤ b
    · exact hb
    · have hd := p2_dvd (show b ≤ 23 by omega)
      have h23 : p2 23 = 512 := by decide
      have := Int.le_of_dvd (p2_pos b) hd
      omega
  · intro h
    have hd := p2_dvd (show 24 ≤ b from h)
    have h24 : p2 24 = 256 := by decide
    have := Int.le_of_dvd (p2_pos 24) hd
    omega
theorem over_comm (a b c d : Int) : overB a b c d = overB c d a b := by unfold overB; rw [Bool.or_comm]
theorem has_iff {base b x : Int} : hasB base b x = true ↔ okB base b = true ∧ x - x % p2 b = base := by simp [hasB]
theorem within_iff {a b c d : Int} : withinB a b c d = true ↔ okB a b = true ∧ hasB c d a = true ∧ d ≤ b := by simp [withinB, and_assoc]
/-- Of two prefixes the one ahead is in the way of the other, just if it goes on up to it. -/
theorem over_ahead {a b c d : Int} (h1 : okB a b = true) (h2 : okB c d = true) (hlt : a < c) : overB a b c d = decide (c < a + p2 b) := by
  obtain ⟨b0, b1, bm⟩ := ok_out h1
  obtain ⟨d0, d1, dm⟩ := ok_out h2
  have pb := p2_pos b
  have pd := p2_pos d
  have hw1 : withinB a b c d = false := by
    rw [Bool.eq_false_iff]
    intro h
    obtain ⟨-, h, -⟩ := within_iff.1 h
    have := (has_iff.1 h).2
    have := Int.emod_nonneg a (show p2 d ≠ 0 by omega)
    omega
  unfold overB
  rw [hw1, Bool.false_or, Bool.eq_iff_iff, within_iff, decide_eq_true_iff]
  constructor
  · rintro ⟨-, h, -⟩
    have h3 := (has_iff.1 h).2
    have := Int.emod_lt_of_pos c pb
    omega
  · intro h
    have hcm : c % p2 b = c - a := by
      have e : c = (c - a) + a := by omega
      rw [e, Int.add_emod, bm, Int.add_zero, Int.emod_emod_of_dvd _ (Int.dvd_refl _), Int.emod_eq_of_lt (by omega) (by omega)]
      omega
    refine ⟨h2, has_iff.2 ⟨h1, by omega⟩, ?_⟩
    by_cases hbd : b ≤ d
    · exact hbd
    · exfalso
      have hd := p2_dvd (show d ≤ b by omega)
      have hc : c % p2 b = 0 := Int.emod_eq_zero_of_dvd (Int.dvd_trans hd (Int.dvd_of_emod_eq_zero dm))
      omega
theorem over_same {a b d : Int} (h1 : okB a b = true) (h2 : okB a d = true) : overB a b a d = true := by
  obtain ⟨b0, b1, bm⟩ := ok_out h1
  obtain ⟨d0, d1, dm⟩ := ok_out h2
  unfold overB
  rw [Bool.or_eq_true, within_iff, within_iff]
  by_cases h : d ≤ b
  · exact .inl ⟨h1, has_iff.2 ⟨h2, by omega⟩, h⟩
  · exact .inr ⟨h2, has_iff.2 ⟨h1, by omega⟩, by omega⟩

/-- One stands wholly ahead of the other. -/
def ap (p x : Sw) : Prop := p.a + p2 p.b ≤ x.a
theorem ap_lt {p x : Sw} (h : ap p x) : p.a < x.a := by have := p2_pos p.b; unfold ap at h; omega
theorem ap_trans {p x y : Sw} (h : ap p x) (g : ap x y) : ap p y := by have := p2_pos x.b; unfold ap at *; omega
theorem rs_lr (x : Sw) : rsB x = lrB x := by
  unfold rsB lrB
  cases hok : okB x.a x.b
  · simp
  · obtain ⟨h0, h1, -⟩ := ok_out hok
    have e1 : decide (p2 x.b ≤ 256) = decide (24 ≤ x.b) := by rw [Bool.eq_iff_iff, decide_eq_true_iff, decide_eq_true_iff]; exact p2_24 h0 h1
    have e2 : decide (x.d = cl x.d) = (decide (0 ≤ x.d) && decide (x.d ≤ 1099511627776)) := by
      rw [Bool.eq_iff_iff, Bool.and_eq_true, decide_eq_true_iff, decide_eq_true_iff, decide_eq_true_iff]
      constructor
      · intro h; have := cl_ge x.d; have := cl_le x.d; omega
      · rintro ⟨h, g⟩; exact (cl_in h g).symm
    rw [e1, e2]
    simp [Bool.and_assoc]
/-- What a right row is. -/
structure Vr (xs : List Sw) : Prop where
  few : xs.length ≤ 16
  each : ∀ x ∈ xs, lrB x = true
  rise : xs.Pairwise ap
theorem chain_pw {xs : List Sw} (h : ∀ i p x, xs[i]? = some p → xs[i + 1]? = some x → ap p x) : xs.Pairwise ap := by
  rw [List.pairwise_iff_getElem]
  intro i j hi hj hij
  have key : ∀ n, ∀ j (hj : j < xs.length), j = i + 1 + n → ap xs[i] xs[j] := by
    intro n
    induction n with
    | zero => intro j hj e; subst e; exact h i _ _ (List.getElem?_eq_getElem hi) (List.getElem?_eq_getElem hj)
    | succ n ih =>
      intro j hj e
      have h1 := ih (j - 1) (by omega) (by omega)
      have h2 := h (j - 1) _ _ (List.getElem?_eq_getElem (by omega)) (by rw [show j - 1 + 1 = j by omega]; exact List.getElem?_eq_getElem hj)
      exact ap_trans h1 h2
  exact key (j - i - 1) j hj (by omega)
theorem lg_iff (xs : List Sw) : lgB xs = true ↔ Vr xs := by
  unfold lgB
  rw [Bool.and_eq_true, List.all_eq_true, decide_eq_true_iff]
  constructor
  · rintro ⟨h, hn⟩
    have hk : ∀ i x, xs[i]? = some x → lrB x = true ∧ lfB xs i = true := fun i x hx => by
      have := h i (List.mem_range.2 (List.getElem?_eq_some_iff.1 hx).1)
      unfold lk at this
      rw [hx] at this
      simpa using this
    refine ⟨hn, fun x hx => ?_, chain_pw fun i p x hp hx => ?_⟩
    · obtain ⟨i, hi, rfl⟩ := List.mem_iff_getElem.1 hx
      exact (hk i _ (List.getElem?_eq_getElem hi)).1
    · have := (hk (i + 1) x hx).2
      unfold lfB at this
      rw [decide_eq_false (by omega), Nat.add_sub_cancel, hp, hx] at this
      simp at this
      exact this.2
  · rintro ⟨hn, he, hr⟩
    refine ⟨fun i hi => ?_, hn⟩
    have hi' := List.mem_range.1 hi
    unfold lk
    rw [List.getElem?_eq_getElem hi']
    simp only [Bool.and_eq_true]
    refine ⟨he _ (List.getElem_mem hi'), ?_⟩
    unfold lfB
    by_cases h0 : i = 0
    · rw [decide_eq_true h0]; rfl
    · have hp := List.pairwise_iff_getElem.1 hr (i - 1) i (by omega) hi' (by omega)
      rw [decide_eq_false h0, List.getElem?_eq_getElem (by omega), List.getElem?_eq_getElem hi']
      simp only [Bool.false_or, Bool.and_eq_true, decide_eq_true_eq]
      exact ⟨ap_lt hp, hp⟩
theorem rg_iff (xs : List Sw) : rgB xs = true ↔ Vr xs := by
  unfold rgB
  rw [Bool.and_eq_true, List.all_eq_true, decide_eq_true_iff]
  constructor
  · rintro ⟨hn, h⟩
    have hk : ∀ i x, xs[i]? = some x → ris xs i = true ∧ rsB x = true ∧ anyB (xs.take i) x.a x.b = false := fun i x hx => by
      have := h i (List.mem_range.2 (List.getElem?_eq_some_iff.1 hx).1)
      unfold rk at this
      rw [hx] at this
      simpa [and_assoc] using this
    refine ⟨hn, fun x hx => ?_, chain_pw fun i p x hp hx => ?_⟩
    · obtain ⟨i, hi, rfl⟩ := List.mem_iff_getElem.1 hx
      rw [← rs_lr]
      exact (hk i _ (List.getElem?_eq_getElem hi)).2.1
    · obtain ⟨h1, h2, h3⟩ := hk (i + 1) x hx
      have h4 := (hk i p hp).2.1
      rw [rs_lr] at h2 h4
      unfold ris at h1
      rw [decide_eq_false (by omega), Nat.add_sub_cancel, hp, hx] at h1
      have hlt : p.a < x.a := by simpa using h1
      unfold anyB at h3
      rw [List.any_eq_false] at h3
      have h5 := h3 p (by
        obtain ⟨hi, e⟩ := List.getElem?_eq_some_iff.1 hp
        rw [← e]
        exact List.mem_iff_getElem.2 ⟨i, by rw [List.length_take]; omega, by rw [List.getElem_take]⟩)
      rw [over_ahead (lrB_out h4).1 (lrB_out h2).1 hlt] at h5
      unfold ap
      simpa using h5
  · rintro ⟨hn, he, hr⟩
    refine ⟨hn, fun i hi => ?_⟩
    have hi' := List.mem_range.1 hi
    unfold rk
    rw [List.getElem?_eq_getElem hi']
    simp only [Bool.and_eq_true, Bool.not_eq_true', rs_lr]
    refine ⟨⟨?_, he _ (List.getElem_mem hi')⟩, ?_⟩
    · unfold ris
      by_cases h0 : i = 0
      · rw [decide_eq_true h0]; rfl
      · have hp := List.pairwise_iff_getElem.1 hr (i - 1) i (by omega) hi' (by omega)
        rw [decide_eq_false h0, List.getElem?_eq_getElem (by omega), List.getElem?_eq_getElem hi']
        simp only [Bool.false_or, decide_eq_true_eq]
        exact ap_lt hp
    · unfold anyB
      rw [List.any_eq_false]
      intro p hp
      obtain ⟨j, hj, rfl⟩ := List.mem_iff_getElem.1 hp
      rw [List.length_take] at hj
      rw [List.getElem_take]
      have hpx := List.pairwise_iff_getElem.1 hr j i (by omega) hi' (by omega)
      rw [over_ahead (lrB_out (he _ (List.getElem_mem _))).1 (lrB_out (he _ (List.getElem_mem _))).1 (ap_lt hpx)]
      unfold ap at hpx
      simpa using hpx
theorem rg_lg (xs : List Sw) : rgB xs = lgB xs := by rw [Bool.eq_iff_iff, rg_iff, lg_iff]
theorem vr_nil : Vr [] := ⟨by simp, by simp, List.Pairwise.nil⟩
theorem sv_of {x : Sw} (h : lrB x = true) (h0 : 0 ≤ x.a) (h1 : x.a < 4294967296) : Sv x := by
  obtain ⟨a1, a2, a3, a4, a5, a6, a7⟩ := lrB_out h
  exact ⟨h0, h1, a1, (p2_24 (by omega) a3).2 a2, a6, a7⟩
/-- A right row whose addresses are numbers of 32 bits. -/
structure V (xs : List Sw) : Prop where
  r : Vr xs
  u : Au xs
theorem V.nil : V [] := ⟨vr_nil, fun x hx => by simp at hx⟩
theorem V.sv {xs : List Sw} (h : V xs) : ∀ x ∈ xs, Sv x := fun x hx => sv_of (h.r.each x hx) (h.u x hx).1 (h.u x hx).2
theorem V.due {xs : List Sw} (h : V xs) : ∀ x ∈ xs, 0 ≤ x.d ∧ x.d ≤ 1099511627776 := fun x hx => by
  obtain ⟨-, -, -, a4, a5, -⟩ := lrB_out (h.r.each x hx)
  exact ⟨a4, a5⟩

/-! ### Changes -/
theorem lo_split {xs : List Sw} (hr : xs.Pairwise ap) (a : Int) : (∀ x ∈ xs.take (lo xs a), x.a < a) ∧ (∀ x ∈ xs.drop (lo xs a), ¬ x.a < a) := by
  refine ⟨fun x hx => ?_, fun x hx => ?_⟩
  · obtain ⟨j, hj, rfl⟩ := List.mem_iff_getElem.1 hx
    rw [List.length_take] at hj
    rw [List.getElem_take]
    exact lo_lt a xs j _ (by omega) (List.getElem?_eq_getElem (by omega))
  · obtain ⟨j, hj, rfl⟩ := List.mem_iff_getElem.1 hx
    rw [List.length_drop] at hj
    rw [List.getElem_drop]
    have hg := lo_ge a xs xs[lo xs a] (List.getElem?_eq_getElem (by omega))
    by_cases h0 : j = 0
    · subst h0; simpa using hg
    · have := ap_lt (List.pairwise_iff_getElem.1 hr (lo xs a) (lo xs a + j) (by omega) (by omega) (by omega))
      omega
theorem put_ok {xs : List Sw} (h : V xs) {a b now : Int} (ha0 : 0 ≤ a) (ha1 : a < 4294967296) (hc : putC xs a b = 0) : V (putR xs a b now) ∧ (putR xs a b now).length = xs.length + 1 ∧ putR xs a b now = ins xs ⟨a, b, cl now, 0⟩ := by
  have e : putR xs a b now = ins xs ⟨a, b, cl now, 0⟩ := by unfold putR; rw [if_pos hc]
  unfold putC at hc
  by_cases hok : okB a b = false
  · rw [if_pos hok] at hc; omega
  · rw [if_neg hok] at hc
    have hok' : okB a b = true := by simpa using hok
    by_cases h2 : 256 < p2 b
    · rw [if_pos h2] at hc; omega
    · rw [if_neg h2] at hc
      by_cases h3 : anyB xs a b = true
      · rw [if_pos h3] at hc; omega
      · rw [if_neg h3] at hc
        by_cases h4 : 16 ≤ xs.length
        · rw [if_pos h4] at hc; omega
        · obtain ⟨b0, b1, bm⟩ := ok_out hok'
          have hl := lo_le a xs
          have hlen : (ins xs ⟨a, b, cl now, 0⟩).length = xs.length + 1 := by
            unfold ins
            simp only [List.length_append, List.length_take, List.length_drop, List.length_singleton]
            omega
          obtain ⟨s1, s2⟩ := lo_split h.r.rise a
          have hno : ∀ x ∈ xs, overB x.a x.b a b = false := fun x hx => by
            have := h3
            unfold anyB at this
            rw [List.any_eq_true] at this
            rw [Bool.eq_false_iff]
            exact fun hc => this ⟨x, hx, hc⟩
          have hmem : ∀ x ∈ ins xs ⟨a, b, cl now, 0⟩, x = ⟨a, b, cl now, 0⟩ ∨ x ∈ xs := fun x hx => by
            unfold ins at hx
            rcases List.mem_append.1 hx with hx | hx
            · rcases List.mem_append.1 hx with hx | hx
              · exact .inr (List.mem_of_mem_take hx)
              · exact .inl (by simpa using hx)
            · exact .inr (List.mem_of_mem_drop hx)
          have pb := p2_pos b
          refine ⟨⟨⟨by rw [e, hlen]; omega, fun x hx => ?_, ?_⟩, fun x hx => ?_⟩, by rw [e, hlen], e⟩
          · rw [e] at hx
            rcases hmem x hx with rfl | hx
            · unfold lrB
              have c1 := cl_ge now
              have c2 := cl_le now
              simp only [hok', Bool.true_and, Bool.and_eq_true, decide_eq_true_eq]
              exact ⟨⟨⟨⟨(p2_24 b0 b1).1 (by omega), c1⟩, c2⟩, Int.le_refl _⟩, pb⟩
            · exact h.r.each x hx
          · rw [e]
            unfold ins
            have hp := h.r.rise
            rw [← List.take_append_drop (lo xs a) xs] at hp
            rw [List.pairwise_append] at hp
            obtain ⟨p1, p2', p3⟩ := hp
            have g1 : ∀ x ∈ xs.take (lo xs a), ap x ⟨a, b, cl now, 0⟩ := fun x hx => by
              have hm := List.mem_of_mem_take hx
              have := hno x hm
              rw [over_ahead (lrB_out (h.r.each x hm)).1 hok' (s1 x hx)] at this
              unfold ap
              simpa using this
            have g2 : ∀ x ∈ xs.drop (lo xs a), ap ⟨a, b, cl now, 0⟩ x := fun x hx => by
              have hm := List.mem_of_mem_drop hx
              have h5 := hno x hm
              have h6 := s2 x hx
              by_cases he : x.a = a
              · rw [he, over_same (by rw [← he]; exact (lrB_out (h.r.each x hm)).1) hok'] at h5
                cases h5
              · rw [over_comm, over_ahead hok' (lrB_out (h.r.each x hm)).1 (by omega)] at h5
                unfold ap
                simpa using h5
            rw [List.append_assoc, List.singleton_append, List.pairwise_append]
            refine ⟨p1, List.pairwise_cons.2 ⟨g2, p2'⟩, fun x hx z hz => ?_⟩
            rcases List.mem_cons.1 hz with rfl | hz
            · exact g1 x hx
            · exact p3 x hx z hz
          · rw [e] at hx
            rcases hmem x hx with rfl | hx
            · exact ⟨ha0, ha1⟩
            · exact h.u x hx
theorem take_ok {xs : List Sw} (h : V xs) {a b : Int} (hc : takeC xs a b = 0) : V (takeR xs a b) ∧ (takeR xs a b).length = xs.length - 1 ∧ 0 < xs.length := by
  have hat : isAt xs a b = true := by
    unfold takeC at hc
    by_cases he : isAt xs a b = true
    · exact he
    · rw [if_neg he] at hc; omega
  have hlt := isAt_lt hat
  have e : takeR xs a b = del xs a := by unfold takeR; rw [if_pos hat]
  have hsub : (del xs a).Sublist xs := by
    unfold del
    conv => rhs; rw [← List.take_append_drop (lo xs a) xs]
    refine List.Sublist.append (List.Sublist.refl _) ?_
    rw [show lo xs a + 1 = 1 + lo xs a by omega, ← List.drop_drop]
    rw [show List.drop (lo xs a) (List.drop 1 xs) = List.drop 1 (List.drop (lo xs a) xs) by rw [List.drop_drop, List.drop_drop, Nat.add_comm]]
    exact List.drop_sublist _ _
  rw [e]
  refine ⟨⟨⟨Nat.le_trans hsub.length_le h.r.few, fun x hx => h.r.each x (hsub.subset hx), h.r.rise.sublist hsub⟩, fun x hx => h.u x (hsub.subset hx)⟩, ?_, by omega⟩
  unfold del
  rw [List.length_append, List.length_take, List.length_drop]
  omega
theorem isAt_iff {xs : List Sw} (h : Vr xs) (a b : Int) : isAt xs a b = true ↔ ∃ (k : Nat) (x : Sw), xs[k]? = some x ∧ eqb x.a x.b a b = true := by
  constructor
  · intro hat
    unfold isAt at hat
    split at hat
    · rename_i x hx
      exact ⟨_, x, hx, hat⟩
    · cases hat
  · rintro ⟨k, x, hx, he⟩
    have hxa : x.a = a := by unfold eqb at he; exact (of_decide_eq_true he).1
    obtain ⟨hk, hkx⟩ := List.getElem?_eq_some_iff.1 hx
    have hlk : lo xs a = k := by
      rcases Nat.lt_trichotomy (lo xs a) k with hl | hl | hl
      · have h1 := lo_ge a xs xs[lo xs a] (List.getElem?_eq_getElem (by omega))
        have h2 := ap_lt (List.pairwise_iff_getElem.1 h.rise (lo xs a) k (by omega) hk hl)
        rw [hkx] at h2
        omega
      · exact hl
      · have := lo_lt a xs k x hl hx
        omega
    unfold isAt
    rw [hlk, hx]
    exact he

/-! ### Plans -/
theorem stp_ab (x : Sw) (every room : Int) : (stp x every room).a = x.a ∧ (stp x every room).b = x.b := by unfold stp; split <;> exact ⟨rfl, rfl⟩
theorem stp_lr {x : Sw} (h : lrB x = true) (every room : Int) : lrB (stp x every room) = true := by
  obtain ⟨a1, a2, a3, a4, a5, a6, a7⟩ := lrB_out h
  have pb := p2_pos x.b
  unfold stp
  split
  · unfold lrB
    have := ad_ge x.d every
    have := ad_le x.d every
    simp only [a1, Bool.true_and, Bool.and_eq_true, decide_eq_true_eq]
    omega
  · rename_i hne
    have hle : x.n + (tk x room : Int) ≤ p2 x.b := by unfold tk; omega
    unfold lrB
    simp only [a1, Bool.true_and, Bool.and_eq_true, decide_eq_true_eq]
    omega
/-- A row that has the same prefixes. -/
def Sb (xs ys : List Sw) : Prop := xs.length = ys.length ∧ ∀ (i : Nat) (x y : Sw), xs[i]? = some x → ys[i]? = some y → x.a = y.a ∧ x.b = y.b
theorem Sb.refl (xs : List Sw) : Sb xs xs := ⟨rfl, fun i x y h g => by rw [h] at g; injection g with g; subst g; exact ⟨rfl, rfl⟩⟩
theorem Sb.pw {xs ys : List Sw} (h : Sb xs ys) (hr : xs.Pairwise ap) : ys.Pairwise ap := by
  rw [List.pairwise_iff_getElem] at *
  intro i j hi hj hij
  have h1 := hr i j (by rw [h.1]; exact hi) (by rw [h.1]; exact hj) hij
  obtain ⟨a1, a2⟩ := h.2 i _ _ (List.getElem?_eq_getElem (by rw [h.1]; exact hi)) (List.getElem?_eq_getElem hi)
  obtain ⟨b1, b2⟩ := h.2 j _ _ (List.getElem?_eq_getElem (by rw [h.1]; exact hj)) (List.getElem?_eq_getElem hj)
  unfold ap at *
  rw [← a1, ← a2, ← b1]
  exact h1
theorem plan_ok {xs : List Sw} (h : V xs) (every room : Int) (l : List Nat) (hl : ∀ i ∈ l, i < xs.length) : V (planL xs every room l).1 ∧ Sb xs (planL xs every room l).1 := by
  unfold planL
  have key : ∀ (l : List Nat) (s : List Sw × List Int), (∀ i ∈ l, i < xs.length) → Sb xs s.1 → (∀ x ∈ s.1, lrB x = true) → Sb xs (l.foldl (plan1 xs every room) s).1 ∧ ∀ x ∈ (l.foldl (plan1 xs every room) s).1, lrB x = true := by
    intro l
    induction l with
    | nil => intro s _ h1 h2; exact ⟨h1, h2⟩
    | cons i r ih =>
      intro s hl h1 h2
      rw [List.foldl_cons]
      have hi := hl i (by simp)
      refine ih _ (fun j hj => hl j (List.mem_cons_of_mem _ hj)) ⟨by simp [plan1, h1.1], fun j x y hx hy => ?_⟩ fun y hy => ?_
      · simp only [plan1] at hy
        rw [List.getElem?_set] at hy
        split at hy
        · rename_i e
          subst e
          rw [if_pos (by rw [← h1.1]; exact hi), hx, Option.getD_some] at hy
          injection hy with hy
          subst hy
          have := stp_ab x every (room - s.2.length)
          exact ⟨this.1.symm, this.2.symm⟩
        · exact h1.2 j x y hx hy
      · simp only [plan1] at hy
        rcases List.mem_or_eq_of_mem_set hy with hy | rfl
        · exact h2 y hy
        · rw [List.getElem?_eq_getElem hi, Option.getD_some]
          exact stp_lr (h.r.each _ (List.getElem_mem hi)) _ _
  obtain ⟨k1, k2⟩ := key l (xs, []) hl (Sb.refl xs) h.r.each
  refine ⟨⟨⟨by rw [← k1.1]; exact h.r.few, k2, k1.pw h.r.rise⟩, fun y hy => ?_⟩, k1⟩
  obtain ⟨i, hi, rfl⟩ := List.mem_iff_getElem.1 hy
  have hi' := hi
  rw [← k1.1] at hi'
  have := (k1.2 i _ _ (List.getElem?_eq_getElem hi') (List.getElem?_eq_getElem hi)).1
  rw [← this]
  exact h.u _ (List.getElem_mem hi')
theorem planO_ok {xs : List Sw} (h : V xs) (every now room : Int) : V (planO xs every now room).1 ∧ Sb xs (planO xs every now room).1 :=
  plan_ok h every room _ fun i hi => ((ord_is xs now).mem i |>.1 hi).1
theorem plan_few (xs : List Sw) (every room : Int) (l : List Nat) : ((planL xs every room l).2.length : Int) ≤ max 0 room := by
  unfold planL
  have key : ∀ (l : List Nat) (s : List Sw × List Int), (s.2.length : Int) ≤ max 0 room → ((l.foldl (plan1 xs every room) s).2.length : Int) ≤ max 0 room := by
    intro l
    induction l with
    | nil => intro s h; exact h
    | cons i r ih =>
      intro s h
      rw [List.foldl_cons]
      refine ih _ ?_
      simp only [plan1, List.length_append, asl_len]
      have : (tk (xs[i]?.getD zw) (room - s.2.length) : Int) ≤ max 0 (room - s.2.length) := by unfold tk; omega
      omega
  exact key l (xs, []) (by simp; omega)
end Go.Proofs.Ytenolbgadlehpaa
