/-
  What keeps a row right: a question more, one less, and ticks; which questions are asked again. No condition.
-/
import Derived.Test.YtjjbkhelnmdfnaaLate
import Derived.Test.YtjjbkhelnmdfnaaLrt
set_option linter.unusedSimpArgs false
set_option linter.unusedVariables false
namespace Go.Proofs.Ytjjbkhelnmdfnaa
open Go.RowKit

theorem to_false {xs : List Pr} {a : Int} : toB xs a = false ↔ ∀ x ∈ xs, x.a ≠ a := by
  unfold toB
  rw [List.any_eq_false]
  simp
theorem to_true {xs : List Pr} {a : Int} : toB xs a = true ↔ ∃ x ∈ xs, x.a = a := by
  unfold toB
  rw [List.any_eq_true]
  simp
/-- A row that is right. -/
structure Vr (xs : List Pr) : Prop where
  few : xs.length ≤ 16
  all : ∀ x ∈ xs, rqB x = true
  dis : (xs.map (·.a)).Nodup
theorem rg_iff (xs : List Pr) : rgB xs = true ↔ Vr xs := by
  unfold rgB
  rw [Bool.and_eq_true, decide_eq_true_eq, List.all_eq_true]
  constructor
  · rintro ⟨h1, h2⟩
    have h3 : ∀ k (hk : k < xs.length), rqB xs[k] = true ∧ toB (xs.take k) xs[k].a = false := fun k hk => by
      have := h2 k (List.mem_range.2 hk)
      unfold rk at this
      rw [List.getElem?_eq_getElem hk] at this
      simpa using this
    refine ⟨h1, fun x hx => ?_, ?_⟩
    · obtain ⟨k, hk, rfl⟩ := List.mem_iff_getElem.1 hx
      exact (h3 k hk).1
    · rw [List.nodup_iff_pairwise_ne, List.pairwise_map, List.pairwise_iff_getElem]
      intro i j hi hj hij
      refine to_false.1 (h3 j hj).2 xs[i] ?_
      rw [List.mem_iff_getElem]
      exact ⟨i, by rw [List.length_take]; omega, by simp⟩
  · rintro ⟨h1, h2, h3⟩
    refine ⟨h1, fun k hk => ?_⟩
    have hk := List.mem_range.1 hk
    unfold rk
    rw [List.getElem?_eq_getElem hk]
    simp only [Bool.and_eq_true, Bool.not_eq_true']
    refine ⟨h2 _ (List.getElem_mem hk), to_false.2 fun x hx => ?_⟩
    obtain ⟨i, hi, rfl⟩ := List.mem_iff_getElem.1 hx
    rw [List.length_take] at hi
    rw [List.nodup_iff_pairwise_ne, List.pairwise_map, List.pairwise_iff_getElem] at h3
    have := h3 i k (by omega) hk (by omega)
    simpa using this
structure V (xs : List Pr) : Prop where
  r : Vr xs
  u : Au xs
theorem V.nil : V [] := ⟨⟨by simp, fun x hx => by simp at hx, by simp⟩, fun x hx => by simp at hx⟩
theorem rq_out {x : Pr} (h : rqB x = true) : x.i = x.a % 65536 ∧ 0 ≤ x.s ∧ x.s ≤ 65535 ∧ 0 ≤ x.t ∧ x.t ≤ 1099511627776 ∧ 0 ≤ x.n ∧ x.n ≤ 8 := by
  rw [rqB_eq] at h
  simp only [Bool.and_eq_true, decide_eq_true_eq] at h
  obtain ⟨⟨⟨⟨⟨⟨h1, h2⟩, h3⟩, h4⟩, h5⟩, h6⟩, h7⟩ := h
  exact ⟨h1, h2, h3, h4, h5, h6, h7⟩
theorem rq_in {x : Pr} (h1 : x.i = x.a % 65536) (h2 : 0 ≤ x.s) (h3 : x.s ≤ 65535) (h4 : 0 ≤ x.t) (h5 : x.t ≤ 1099511627776) (h6 : 0 ≤ x.n) (h7 : x.n ≤ 8) : rqB x = true := by
  rw [rqB_eq]
  simp only [Bool.and_eq_true, decide_eq_true_eq]
  exact ⟨⟨⟨⟨⟨⟨h1, h2⟩, h3⟩, h4⟩, h5⟩, h6⟩, h7⟩
theorem rq_of (a s n : Int) : rqB (ofP a s n) = true := rq_in rfl (by unfold ofP; dsimp only; omega) (by unfold ofP; dsimp only; omega) (cl_ge n) (cl_le n) (by show (0 : Int) ≤ 0; omega) (by show (0 : Int) ≤ 8; omega)
theorem V.one {x : Pr} (h : rqB x = true) (h0 : 0 ≤ x.a) (h1 : x.a < 4294967296) : V [x] := ⟨⟨by simp, fun y hy => by simp at hy; subst hy; exact h, by simp⟩, fun y hy => by simp at hy; subst hy; exact ⟨h0, h1⟩⟩
theorem V.n {xs : List Pr} (h : V xs) : ∀ x ∈ xs, 0 ≤ x.n ∧ x.n ≤ 1099511627776 := fun x hx => by
  obtain ⟨-, -, -, -, -, h6, h7⟩ := rq_out (h.r.all x hx)
  omega
theorem V.t {xs : List Pr} (h : V xs) : ∀ x ∈ xs, 0 ≤ x.t ∧ x.t ≤ 1099511627776 := fun x hx => by
  obtain ⟨-, -, -, h4, h5, -, -⟩ := rq_out (h.r.all x hx)
  omega
theorem put_ok {xs : List Pr} {x : Pr} (h : V xs) (hq : rqB x = true) (h0 : 0 ≤ x.a) (h1 : x.a < 4294967296) (hp : putC xs x = 0) : V (xs ++ [x]) := by
  unfold putC at hp
  cases ht : toB xs x.a
  · rw [ht] at hp
    have h16 : ¬ 16 ≤ xs.length := fun h16 => by rw [if_neg (by simp), if_pos h16] at hp; cases hp
    refine ⟨⟨by rw [List.length_append]; simp; omega, fun y hy => ?_, ?_⟩, fun y hy => ?_⟩
    · rcases List.mem_append.1 hy with hy | hy
      · exact h.r.all y hy
      · simp at hy; subst hy; exact hq
    · rw [List.map_append, List.nodup_append]
      refine ⟨h.r.dis, by simp, ?_⟩
      intro a ha b hb
      obtain ⟨y, hy, rfl⟩ := List.mem_map.1 ha
      simp at hb
      subst hb
      exact to_false.1 ht y hy
    · rcases List.mem_append.1 hy with hy | hy
      · exact h.u y hy
      · simp at hy; subst hy; exact ⟨h0, h1⟩
  · rw [ht, if_pos rfl] at hp
    cases hp
theorem del_sub (xs : List Pr) (k : Nat) : (del xs k).Sublist xs := by
  unfold del
  conv => rhs; rw [← List.take_append_drop k xs]
  exact (List.Sublist.refl _).append (by rw [← List.drop_drop]; exact List.drop_sublist 1 _)
theorem del_ok {xs : List Pr} (h : V xs) (k : Nat) : V (del xs k) := by
  have hs := del_sub xs k
  exact ⟨⟨Nat.le_trans hs.length_le h.r.few, fun x hx => h.r.all x (hs.subset hx), List.Nodup.sublist (hs.map _) h.r.dis⟩, fun x hx => h.u x (hs.subset hx)⟩
theorem del_len {xs : List Pr} {k : Nat} (hk : k < xs.length) : (del xs k).length + 1 = xs.length := by
  unfold del
  rw [List.length_append, List.length_take, List.length_drop]
  omega

section
variable {wt ag now room : Int}
theorem st1_mem {S : List Pr × List Pr} {x p : Pr} (h : p ∈ (st1 wt ag now room S x).1) : p ∈ S.1 ∨ (p = x ∧ (si now x.t < wt ∨ (x.n < ag ∧ room ≤ S.2.length))) ∨ (p = nx now x ∧ wt ≤ si now x.t ∧ x.n < ag) := by
  unfold st1 at h
  split at h
  · rename_i h1
    split at h
    · exact .inl h
    · rename_i h2
      split at h
      · rcases List.mem_append.1 h with h | h
        · exact .inl h
        · simp at h; exact .inr (.inr ⟨h, h1, by omega⟩)
      · rename_i h3
        rcases List.mem_append.1 h with h | h
        · exact .inl h
        · simp at h; exact .inr (.inl ⟨h, .inr ⟨by omega, by omega⟩⟩)
  · rename_i h1
    rcases List.mem_append.1 h with h | h
    · exact .inl h
    · simp at h; exact .inr (.inl ⟨h, .inl (by omega)⟩)
theorem st1_len2 (S : List Pr × List Pr) (x : Pr) : (st1 wt ag now room S x).2.length ≤ S.2.length + 1 := by
  unfold st1
  split
  · split
    · omega
    · split
      · simp
      · simp
  · simp
theorem fold_mem : ∀ (ys : List Pr) (S : List Pr × List Pr) (M : Nat), S.2.length + ys.length ≤ M → ∀ p ∈ (ys.foldl (st1 wt ag now room) S).1, p ∈ S.1 ∨ ∃ x ∈ ys, (p = x ∧ (si now x.t < wt ∨ (x.n < ag ∧ room ≤ M))) ∨ (p = nx now x ∧ wt ≤ si now x.t ∧ x.n < ag) := by
  intro ys
  induction ys with
  | nil => intro S M _ p hp; exact .inl hp
  | cons x r ih =>
    intro S M hM p hp
    rw [List.foldl_cons] at hp
    have hl := st1_len2 (wt := wt) (ag := ag) (now := now) (room := room) S x
    rw [List.length_cons] at hM
    rcases ih _ M (by omega) p hp with h | ⟨y, hy, h⟩
    · rcases st1_mem h with h | ⟨h1, h2⟩ | h
      · exact .inl h
      · refine .inr ⟨x, by simp, .inl ⟨h1, ?_⟩⟩
        rcases h2 with h2 | ⟨h2, h3⟩
        · exact .inl h2
        · exact .inr ⟨h2, by omega⟩
      · exact .inr ⟨x, by simp, .inr h⟩
    · exact .inr ⟨y, List.mem_cons_of_mem _ hy, h⟩
theorem lt_mem {xs : List Pr} {p : Pr} (h : p ∈ (ltO wt ag now room xs).1) : ∃ x ∈ xs, (p = x ∧ (si now x.t < wt ∨ (x.n < ag ∧ room ≤ xs.length))) ∨ (p = nx now x ∧ wt ≤ si now x.t ∧ x.n < ag) := by
  rcases fold_mem xs ([], []) xs.length (by simp) p h with h | h
  · simp at h
  · exact h
theorem st1_mem2 {S : List Pr × List Pr} {x p : Pr} (hS : ∀ q ∈ S.2, q ∈ S.1) (h : p ∈ (st1 wt ag now room S x).2) : p ∈ (st1 wt ag now room S x).1 ∧ (p ∈ S.2 ∨ (p = nx now x ∧ wt ≤ si now x.t ∧ x.n < ag)) := by
  unfold st1 at h ⊢
  split at h
  · rename_i h1
    rw [if_pos h1]
    split at h
    · rename_i h2
      rw [if_pos h2]
      exact ⟨hS p h, .inl h⟩
    · rename_i h2
      rw [if_neg h2]
      split at h
      · rename_i h3
        rw [if_pos h3]
        rcases List.mem_append.1 h with h | h
        · exact ⟨List.mem_append_left _ (hS p h), .inl h⟩
        · exact ⟨List.mem_append_right _ h, .inr ⟨by simpa using h, h1, by omega⟩⟩
      · rename_i h3
        rw [if_neg h3]
        exact ⟨List.mem_append_left _ (hS p h), .inl h⟩
  · rename_i h1
    rw [if_neg h1]
    exact ⟨List.mem_append_left _ (hS p h), .inl h⟩
theorem st1_keep {S : List Pr × List Pr} {x p : Pr} (h : p ∈ S.1) : p ∈ (st1 wt ag now room S x).1 := by
  unfold st1
  split
  · split
    · exact h
    · split
      · exact List.mem_append_left _ h
      · exact List.mem_append_left _ h
  · exact List.mem_append_left _ h
theorem fold_mem2 : ∀ (ys : List Pr) (S : List Pr × List Pr), (∀ q ∈ S.2, q ∈ S.1) → ∀ p ∈ (ys.foldl (st1 wt ag now room) S).2, p ∈ (ys.foldl (st1 wt ag now room) S).1 ∧ (p ∈ S.2 ∨ ∃ x ∈ ys, p = nx now x ∧ wt ≤ si now x.t ∧ x.n < ag) := by
  intro ys
  induction ys with
  | nil => intro S hS p hp; exact ⟨hS p hp, .inl hp⟩
  | cons x r ih =>
    intro S hS p hp
    rw [List.foldl_cons] at hp ⊢
    obtain ⟨h1, h2⟩ := ih _ (fun q hq => (st1_mem2 hS hq).1) p hp
    refine ⟨h1, ?_⟩
    rcases h2 with h2 | ⟨y, hy, h2⟩
    · rcases (st1_mem2 hS h2).2 with h3 | h3
      · exact .inl h3
      · exact .inr ⟨x, by simp, h3⟩
    · exact .inr ⟨y, List.mem_cons_of_mem _ hy, h2⟩
/-- Who is asked again was asked ahead. -/
theorem lt_mem2 {xs : List Pr} {p : Pr} (h : p ∈ (ltO wt ag now room xs).2) : p ∈ (ltO wt ag now room xs).1 ∧ ∃ x ∈ xs, p = nx now x ∧ wt ≤ si now x.t ∧ x.n < ag := by
  obtain ⟨h1, h2⟩ := fold_mem2 xs ([], []) (fun q hq => by simp at hq) p h
  refine ⟨h1, ?_⟩
  rcases h2 with h2 | h2
  · simp at h2
  · exact h2
/-- No more are asked again than there is room for. -/
theorem lt_room (xs : List Pr) : ((ltO wt ag now room xs).2.length : Int) ≤ max room 0 := by
  have key : ∀ (ys : List Pr) (S : List Pr × List Pr), (S.2.length : Int) ≤ max room 0 → ((ys.foldl (st1 wt ag now room) S).2.length : Int) ≤ max room 0 := by
    intro ys
    induction ys with
    | nil => intro S h; exact h
    | cons x r ih =>
      intro S h
      rw [List.foldl_cons]
      refine ih _ ?_
      unfold st1
      split
      · split
        · exact h
        · split
          · rw [List.length_append]; simp; omega
          · exact h
      · exact h
  exact key xs ([], []) (by simp; omega)
theorem lt_sub (xs : List Pr) : ((ltO wt ag now room xs).1.map (·.a)).Sublist (xs.map (·.a)) := by
  have key : ∀ (ys : List Pr) (S : List Pr × List Pr) (zs : List Pr), (S.1.map (·.a)).Sublist (zs.map (·.a)) → ((ys.foldl (st1 wt ag now room) S).1.map (·.a)).Sublist ((zs ++ ys).map (·.a)) := by
    intro ys
    induction ys with
    | nil => intro S zs h; simpa using h
    | cons x r ih =>
      intro S zs h
      rw [List.foldl_cons, show zs ++ x :: r = (zs ++ [x]) ++ r by simp]
      refine ih _ _ ?_
      rw [List.map_append]
      have h2 : ∀ p : Pr, p.a = x.a → ((S.1 ++ [p]).map (·.a)).Sublist (zs.map (·.a) ++ [x].map (·.a)) := fun p hp => by
        rw [List.map_append]
        simp only [List.map_cons, List.map_nil, hp]
        exact h.append (List.Sublist.refl _)
      unfold st1
      split
      · split
        · exact h.trans (List.sublist_append_left _ _)
        · split
          · exact h2 _ rfl
          · exact h2 _ rfl
      · exact h2 _ rfl
  have := key xs ([], []) [] (by simp)
  simpa [ltO] using this
theorem lt_ok {xs : List Pr} (h : V xs) (hag : ag ≤ 8) : V (ltO wt ag now room xs).1 := by
  refine ⟨⟨Nat.le_trans (lt_len _ _ _ _ _).1 h.r.few, fun p hp => ?_, List.Nodup.sublist (lt_sub xs) h.r.dis⟩, fun p hp => ?_⟩
  · obtain ⟨x, hx, ⟨rfl, _⟩ | ⟨rfl, _, h2⟩⟩ := lt_mem hp
    · exact h.r.all _ hx
    · obtain ⟨g1, g2, g3, g4, g5, g6, g7⟩ := rq_out (h.r.all x hx)
      exact rq_in g1 g2 g3 (cl_ge _) (cl_le _) (by show 0 ≤ x.n + 1; omega) (by show x.n + 1 ≤ 8; omega)
  · obtain ⟨x, hx, ⟨rfl, _⟩ | ⟨rfl, _⟩⟩ := lt_mem hp
    · exact h.u _ hx
    · exact h.u x hx
end

/-- Which question a packet answers, in a row that is right. -/
theorem plc_at {xs : List Pr} (h : V xs) {p : Pk} {u : Nat} {z : Pr} (hz : xs[u]? = some z) (ha : z.a = p.f) (hi : p.i = p.f % 65536) : plc p xs = if p.a = true ∧ z.s = p.s then some u else none := by
  have hu := (List.getElem?_eq_some_iff.1 hz).1
  have hzz := (List.getElem?_eq_some_iff.1 hz).2
  have hzi := (rq_out (h.r.all z (List.mem_of_getElem? hz))).1
  have hm : mt p z = (p.a && (z.s == p.s)) := by
    unfold mt
    rw [show (z.a == p.f) = true by simpa using ha, show (z.i == p.i) = true by rw [hzi, hi, ha]; simp]
    simp
  have hd : ∀ j (hj : j < xs.length), j ≠ u → mt p xs[j] = false := fun j hj hne => by
    unfold mt
    have : (xs[j].a == p.f) = false := by
      rw [beq_eq_false_iff_ne]
      intro e
      have hdis := h.r.dis
      rw [List.nodup_iff_pairwise_ne, List.pairwise_map, List.pairwise_iff_getElem] at hdis
      rcases Nat.lt_or_gt_of_ne hne with hlt | hgt
      · exact hdis j u hj hu hlt (by rw [hzz, e, ha])
      · exact hdis u j hu hj hgt (by rw [hzz, e, ha])
    rw [this]
    simp
  unfold plc
  split
  · rename_i hc
    rw [List.findIdx?_eq_some_iff_getElem]
    refine ⟨hu, by rw [hzz, hm, hc.1, hc.2]; simp, fun j hj => ?_⟩
    rw [hd j (by omega) (by omega)]
    simp
  · rename_i hc
    rw [List.findIdx?_eq_none_iff]
    intro x hx
    obtain ⟨j, hj, rfl⟩ := List.mem_iff_getElem.1 hx
    by_cases hju : j = u
    · subst hju
      rw [hzz, hm]
      cases hpa : p.a
      · rfl
      · rw [hpa] at hc
        have : ¬ z.s = p.s := fun e => hc ⟨rfl, e⟩
        simpa using this
    · exact hd j hj hju
theorem plc_no {xs : List Pr} {p : Pk} (h : toB xs p.f = false) : plc p xs = none := by
  unfold plc
  rw [List.findIdx?_eq_none_iff]
  intro x hx
  have := to_false.1 h x hx
  unfold mt
  rw [show (x.a == p.f) = false by simpa using this]
  simp
end Go.Proofs.Ytjjbkhelnmdfnaa
