/-
  What keeps a list of cases right: a case more, a stage further, and ticks; what a deed brings. No condition.
-/
import Derived.Test.YtmaaniokfpkbjaaLrt
import Derived.Test.YtmaaniokfpkbjaaTck
import Derived.Test.YtmaaniokfpkbjaaRas
set_option linter.unusedSimpArgs false
set_option linter.unusedVariables false
namespace Go.Proofs.Ytmaaniokfpkbjaa
open Go.RowKit

theorem op_iff (x : Ca) : opB x = true ↔ x.g = 0 ∨ x.g = 1 := by unfold opB; simp
theorem oa_no {xs : List Ca} {a : Int} : oa xs a = false ↔ ∀ x ∈ xs, opB x = true → x.a ≠ a := by
  unfold oa
  rw [List.any_eq_false]
  constructor
  · intro h x hx ho e
    have := h x hx
    unfold fm at this
    rw [ho, e] at this
    simp at this
  · intro h x hx hf
    unfold fm at hf
    simp only [Bool.and_eq_true, beq_iff_eq] at hf
    exact h x hx hf.2 hf.1
theorem fnd_no {xs : List Ca} {a : Int} (h : fnd a xs = none) : ∀ x ∈ xs, opB x = true → x.a ≠ a := by
  have := oa_fnd xs a
  rw [h] at this
  exact oa_no.1 this.symm
theorem fnd_none {xs : List Ca} {a : Int} (h : ∀ x ∈ xs, opB x = true → x.a ≠ a) : fnd a xs = none := by
  have := oa_fnd xs a
  rw [oa_no.2 h] at this
  cases hf : fnd a xs with
  | none => rfl
  | some i => rw [hf] at this; cases this
theorem fnd_at {xs : List Ca} {a : Int} {i : Nat} (h : fnd a xs = some i) : ∃ x, xs[i]? = some x ∧ x.a = a ∧ opB x = true := by
  have hl := fnd_lt h
  unfold fnd at h
  obtain ⟨h1, h2, _⟩ := List.findIdx?_eq_some_iff_getElem.1 h
  refine ⟨xs[i], List.getElem?_eq_getElem hl, ?_⟩
  unfold fm at h2
  simpa using h2
/-- A list that is right. -/
structure Vr (xs : List Ca) : Prop where
  few : xs.length ≤ 16
  all : ∀ x ∈ xs, rcB x = true
  dis : xs.Pairwise fun x y => opB x = true → opB y = true → x.a ≠ y.a
theorem rg_ok {xs : List Ca} (h : Vr xs) : rgB xs = true := by
  unfold rgB
  rw [Bool.and_eq_true, decide_eq_true_eq, List.all_eq_true]
  refine ⟨h.few, fun k hk => ?_⟩
  have hk := List.mem_range.1 hk
  rw [rk_oa (List.getElem?_eq_getElem hk)]
  rw [h.all _ (List.getElem_mem hk), Bool.true_and]
  cases ho : opB xs[k]
  · rfl
  · rw [Bool.true_and, oa_no.2 (fun x hx hox e => ?_)]
    · rfl
    · obtain ⟨i, hi, rfl⟩ := List.mem_iff_getElem.1 hx
      rw [List.length_take] at hi
      rw [List.getElem_take] at hox e
      have := List.pairwise_iff_getElem.1 h.dis i k (by omega) hk (by omega)
      exact this hox ho e
structure V (xs : List Ca) : Prop where
  r : Vr xs
  u : Au xs
theorem V.nil : V [] := ⟨⟨by simp, fun x hx => by simp at hx, by simp⟩, fun x hx => by simp at hx⟩
theorem rc_out {x : Ca} (h : rcB x = true) : 0 ≤ x.g ∧ x.g ≤ 5 ∧ 0 ≤ x.r ∧ x.r ≤ 1099511627776 ∧ 0 ≤ x.d ∧ x.d ≤ 1099511627776 ∧ (opB x = true → x.d = 0) ∧ (opB x = false → x.r ≤ x.d) := by
  rw [rcB_eq] at h
  simp only [Bool.and_eq_true, decide_eq_true_eq] at h
  obtain ⟨⟨⟨⟨⟨⟨h1, h2⟩, h3⟩, h4⟩, h5⟩, h6⟩, h7⟩ := h
  refine ⟨h1, h2, h3, h4, h5, h6, fun ho => ?_, fun ho => ?_⟩
  · rw [if_pos ho] at h7; simpa using h7
  · rw [if_neg (by rw [ho]; simp)] at h7; simpa using h7
theorem rc_mk {x : Ca} (h1 : 0 ≤ x.g) (h2 : x.g ≤ 5) (h3 : 0 ≤ x.r) (h4 : x.r ≤ 1099511627776) (h5 : 0 ≤ x.d) (h6 : x.d ≤ 1099511627776) (h7 : opB x = true → x.d = 0) (h8 : opB x = false → x.r ≤ x.d) : rcB x = true := by
  rw [rcB_eq]
  simp only [Bool.and_eq_true, decide_eq_true_eq]
  refine ⟨⟨⟨⟨⟨⟨h1, h2⟩, h3⟩, h4⟩, h5⟩, h6⟩, ?_⟩
  cases ho : opB x
  · simp only [Bool.false_eq_true, if_false, decide_eq_true_eq]; exact h8 ho
  · simp only [if_true, decide_eq_true_eq]; exact h7 ho
/-- A list that is right, none of whose cases was raised later than now. -/
structure Vn (s : List Ca × Int) : Prop where
  v : V s.1
  now : ∀ x ∈ s.1, x.r ≤ s.2
  n0 : 0 ≤ s.2
theorem Vn.nil : Vn ([], 0) := ⟨V.nil, fun x hx => by simp at hx, Int.le_refl _⟩
theorem nw_ok {a now : Int} (h0 : 0 ≤ now) (h1 : now ≤ 1099511627776) : rcB (nw a now) = true ∧ opB (nw a now) = true ∧ (nw a now).r = now := by
  have hc := cl_in h0 h1
  refine ⟨rc_mk (by simp [nw]) (by simp [nw]) (by simp [nw, hc, h0]) (by simp [nw, hc, h1]) (by simp [nw]) (by simp [nw]) (fun _ => by simp [nw]) (fun h => by simp [nw, opB] at h), by simp [nw, opB], by simp [nw, hc]⟩
theorem del_sub (xs : List Ca) (k : Nat) : (del xs k).Sublist xs := by
  unfold del
  conv => rhs; rw [← List.take_append_drop k xs]
  refine List.Sublist.append (List.Sublist.refl _) ?_
  rw [← List.drop_drop]
  exact List.drop_sublist _ _
theorem del_len {xs : List Ca} {k : Nat} (h : k < xs.length) : (del xs k).length = xs.length - 1 := by
  unfold del
  rw [List.length_append, List.length_take, List.length_drop]
  omega
/-- A case more, behind a part of what was. -/
theorem push_ok {xs ys : List Ca} {a now : Int} (h : Vn (xs, now)) (hs : ys.Sublist xs) (hn : fnd a xs = none) (hl : ys.length < 16) (h1 : now ≤ 1099511627776) (ha0 : 0 ≤ a) (ha1 : a < 4294967296) : Vn (ys ++ [nw a now], now) := by
  obtain ⟨n1, n2, n3⟩ := nw_ok (a := a) (now := now) h.n0 h1
  have hf := fnd_no hn
  refine ⟨⟨⟨by show (ys ++ [nw a now]).length ≤ 16; rw [List.length_append]; simp; omega, fun x hx => ?_, ?_⟩, fun x hx => ?_⟩, fun x hx => ?_, h.n0⟩
  · rcases List.mem_append.1 hx with hx | hx
    · exact h.v.r.all x (hs.subset hx)
    · simp at hx; subst hx; exact n1
  · rw [List.pairwise_append]
    refine ⟨h.v.r.dis.sublist hs, by simp, fun x hx y hy hox _ => ?_⟩
    simp at hy
    subst hy
    exact hf x (hs.subset hx) hox
  · rcases List.mem_append.1 hx with hx | hx
    · exact h.v.u x (hs.subset hx)
    · simp at hx; subst hx; exact ⟨ha0, ha1⟩
  · rcases List.mem_append.1 hx with hx | hx
    · exact h.now x (hs.subset hx)
    · simp at hx; subst hx; show (nw a now).r ≤ now; omega
theorem rs_ok {xs : List Ca} {q now a : Int} (h : Vn (xs, now)) (h1 : now ≤ 1099511627776) (ha0 : 0 ≤ a) (ha1 : a < 4294967296) (he : (rsO q now a xs).2 = 0) : Vn ((rsO q now a xs).1, now) := by
  have hfew := h.v.r.few
  dsimp only at hfew
  unfold rsO at *
  cases hf : fnd a xs with
  | some i => rw [hf] at he; simp [rs1] at he
  | none =>
    rw [hf] at he
    unfold rs1 at *
    dsimp only at *
    split at he
    · simp at he
    · rename_i hq
      rw [if_neg hq]
      split at he
      · rename_i h16
        rw [if_pos h16]
        exact push_ok h (List.Sublist.refl _) hf h16 h1 ha0 ha1
      · rename_i h16
        rw [if_neg h16]
        cases hs : spO q now xs with
        | none => rw [hs] at he; simp [rs2] at he
        | some i =>
          obtain ⟨z, hz, hlt, -, -⟩ := spk_at hs
          show Vn (del xs i ++ [nw a now], now)
          exact push_ok h (del_sub _ _) hf (by rw [del_len hlt]; omega) h1 ha0 ha1
theorem mv_ok {tg now : Int} {x : Ca} (ht0 : 1 ≤ tg) (ht1 : tg ≤ 5) (h0 : 0 ≤ now) (h1 : now ≤ 1099511627776) (hx : rcB x = true) (ho : opB x = true) (hr : x.r ≤ now) : rcB (mv tg now x) = true ∧ (mv tg now x).a = x.a ∧ (mv tg now x).r = x.r := by
  obtain ⟨g0, g1, r0, r1, d0, d1, k1, k2⟩ := rc_out hx
  have hc := cl_in h0 h1
  have hd := k1 ho
  unfold mv
  split
  · rename_i h
    exact ⟨rc_mk (by show 0 ≤ tg; omega) ht1 r0 r1 d0 d1 (fun _ => hd) (fun h' => by rw [h] at h'; cases h'), rfl, rfl⟩
  · rename_i h
    have e : opB ⟨x.a, x.r, cl now, tg⟩ = opB ⟨x.a, x.r, x.d, tg⟩ := rfl
    refine ⟨rc_mk (by show 0 ≤ tg; omega) ht1 r0 r1 (by show 0 ≤ cl now; omega) (by show cl now ≤ _; omega) (fun h' => by rw [e] at h'; exact absurd h' h) (fun _ => by show x.r ≤ cl now; omega), rfl, rfl⟩
theorem getD_at {xs : List Ca} {i : Nat} {x : Ca} (h : xs[i]? = some x) : xs.getD i zc = x := by rw [List.getD_eq_getElem?_getD, h]; rfl
/-- One open case at another stage. -/
theorem set_ok {xs : List Ca} {now : Int} {i : Nat} {x m : Ca} (h : Vn (xs, now)) (hx : xs[i]? = some x) (ho : opB x = true) (hm : rcB m = true) (ha : m.a = x.a) (hr : m.r = x.r) : Vn (xs.set i m, now) := by
  have hi := (List.getElem?_eq_some_iff.1 hx).1
  have hxe := (List.getElem?_eq_some_iff.1 hx).2
  have hxm := List.mem_of_getElem? hx
  refine ⟨⟨⟨by show (xs.set i m).length ≤ 16; rw [List.length_set]; exact h.v.r.few, fun y hy => ?_, ?_⟩, fun y hy => ?_⟩, fun y hy => ?_, h.n0⟩
  · rcases List.mem_or_eq_of_mem_set hy with hy | rfl
    · exact h.v.r.all y hy
    · exact hm
  · rw [List.pairwise_iff_getElem]
    intro j k hj hk hjk o1 o2
    rw [List.length_set] at hj hk
    have hd := List.pairwise_iff_getElem.1 h.v.r.dis j k hj hk hjk
    dsimp only at hd
    rw [List.getElem_set] at o1 o2 ⊢
    rw [List.getElem_set]
    by_cases e1 : i = j
    · subst e1
      rw [if_pos rfl] at o1 ⊢
      rw [if_neg (by omega)] at o2 ⊢
      rw [ha, ← hxe]
      exact hd (by rw [hxe]; exact ho) o2
    · rw [if_neg e1] at o1 ⊢
      by_cases e2 : i = k
      · subst e2
        rw [if_pos rfl] at o2 ⊢
        rw [ha, ← hxe]
        exact hd o1 (by rw [hxe]; exact ho)
      · rw [if_neg e2] at o2 ⊢
        exact hd o1 o2
  · rcases List.mem_or_eq_of_mem_set hy with hy | rfl
    · exact h.v.u y hy
    · rw [ha]; exact h.v.u x hxm
  · rcases List.mem_or_eq_of_mem_set hy with hy | rfl
    · exact h.now y hy
    · rw [hr]; exact h.now x hxm
theorem st_ok {xs : List Ca} {ck : Int → Bool} {tg now a : Int} (h : Vn (xs, now)) (h1 : now ≤ 1099511627776) (ht0 : 1 ≤ tg) (ht1 : tg ≤ 5) (he : (stO ck tg now a xs).2 = 0) : Vn ((stO ck tg now a xs).1, now) := by
  unfold stO at *
  cases hf : fnd a xs with
  | none => rw [hf] at he; simp at he
  | some i =>
    rw [hf] at he
    dsimp only at *
    split at he
    · rename_i hc
      rw [if_pos hc]
      obtain ⟨x, hx, hxa, ho⟩ := fnd_at hf
      have hxm := List.mem_of_getElem? hx
      obtain ⟨m1, m2, m3⟩ := mv_ok (tg := tg) (now := now) (x := x) ht0 ht1 h.n0 h1 (h.v.r.all x hxm) ho (h.now x hxm)
      unfold mvA
      rw [getD_at hx]
      exact set_ok h hx ho m1 m2 m3
    · simp at he
theorem tk_op {h now : Int} {x : Ca} (ho : opB (tk h now x) = true) : tk h now x = x ∧ opB x = true := by
  unfold tk at *
  split at ho
  · rename_i hc
    exfalso
    unfold mv at ho
    split at ho
    · rename_i h'; simp [opB] at h'
    · simp [opB] at ho
  · rename_i hc
    rw [if_neg hc]
    exact ⟨rfl, ho⟩
theorem tk_a (h now : Int) (x : Ca) : (tk h now x).a = x.a ∧ (tk h now x).r = x.r := by
  unfold tk
  split
  · unfold mv; split <;> exact ⟨rfl, rfl⟩
  · exact ⟨rfl, rfl⟩
/-- Behind a tick. -/
theorem tick_ok {xs : List Ca} {h now t : Int} (hv : Vn (xs, now)) (h1 : now + t ≤ 1099511627776) (ht : 0 ≤ t) : Vn (tkO h (now + t) xs, now + t) := by
  have hn0 := hv.n0
  have hfew := hv.v.r.few
  dsimp only at hn0 hfew
  unfold tkO
  refine ⟨⟨⟨by show (xs.map _).length ≤ 16; rw [List.length_map]; exact hfew, fun y hy => ?_, ?_⟩, fun y hy => ?_⟩, fun y hy => ?_, by show 0 ≤ now + t; omega⟩
  · obtain ⟨x, hx, rfl⟩ := List.mem_map.1 hy
    have hrx := hv.now x hx
    dsimp only at hrx
    unfold tk
    split
    · rename_i hc
      exact (mv_ok (by omega) (by omega) (by omega) h1 (hv.v.r.all x hx) ((op_iff x).2 (.inl hc.1)) (by omega)).1
    · exact hv.v.r.all x hx
  · rw [List.pairwise_map]
    refine hv.v.r.dis.imp fun {x y} hd o1 o2 => ?_
    rw [(tk_a _ _ _).1, (tk_a _ _ _).1]
    exact hd (tk_op o1).2 (tk_op o2).2
  · obtain ⟨x, hx, rfl⟩ := List.mem_map.1 hy
    rw [(tk_a _ _ _).1]
    exact hv.v.u x hx
  · obtain ⟨x, hx, rfl⟩ := List.mem_map.1 hy
    have hrx := hv.now x hx
    dsimp only at hrx
    show (tk h (now + t) x).r ≤ now + t
    rw [(tk_a _ _ _).2]
    omega

/-- What a deed brings. -/
def doO (q now : Int) (a : Ac) (xs : List Ca) : List Ca × Int :=
  if a.o % 8 < 2 then rsO q now (nr a.p) xs
  else if a.o % 8 = 2 then stO (fun g => g == 0) 1 now (nr a.p) xs
  else if a.o % 8 = 3 then stO (fun g => g == 0) 2 now (nr a.p) xs
  else if a.o % 8 = 4 then stO (fun g => g == 1) 5 now (nr a.p) xs
  else if a.o % 8 = 5 then stO (fun _ => true) 4 now (nr a.p) xs
  else (xs, 0)
theorem nr_in (n : Int) : 0 ≤ nr n ∧ nr n < 4294967296 := by unfold nr; omega
theorem do_ok {xs : List Ca} {q now : Int} {a : Ac} (h : Vn (xs, now)) (h1 : now ≤ 1099511627776) (he : (doO q now a xs).2 = 0) : Vn ((doO q now a xs).1, now) := by
  unfold doO at *
  by_cases c0 : a.o % 8 < 2
  · rw [if_pos c0] at he ⊢; exact rs_ok h h1 (nr_in _).1 (nr_in _).2 he
  · rw [if_neg c0] at he ⊢
    by_cases c2 : a.o % 8 = 2
    · rw [if_pos c2] at he ⊢; exact st_ok h h1 (by omega) (by omega) he
    · rw [if_neg c2] at he ⊢
      by_cases c3 : a.o % 8 = 3
      · rw [if_pos c3] at he ⊢; exact st_ok h h1 (by omega) (by omega) he
      · rw [if_neg c3] at he ⊢
        by_cases c4 : a.o % 8 = 4
        · rw [if_pos c4] at he ⊢; exact st_ok h h1 (by omega) (by omega) he
        · rw [if_neg c4] at he ⊢
          by_cases c5 : a.o % 8 = 5
          · rw [if_pos c5] at he ⊢; exact st_ok h h1 (by omega) (by omega) he
          · rw [if_neg c5]; exact h
/-- The list behind a deed. -/
def ls1 (q : Int) (s : List Ca × Int) (a : Ac) : List Ca := if (doO q s.2 a s.1).2 = 0 then (doO q s.2 a s.1).1 else s.1
def sm1 (q h : Int) (s : List Ca × Int) (a : Ac) : List Ca × Int :=
  if 5 < a.o % 8 then (tkO h (s.2 + a.n % 10) (ls1 q s a), s.2 + a.n % 10) else (ls1 q s a, s.2)
/-- A list behind some deeds, and the tick then. -/
def smO (q h : Int) (ys : List Ac) : List Ca × Int := ys.foldl (sm1 q h) ([], 0)
theorem smO_snoc (q h : Int) (ys : List Ac) (a : Ac) : smO q h (ys ++ [a]) = sm1 q h (smO q h ys) a := by simp [smO, List.foldl_append]
theorem ls1_ok {q : Int} {s : List Ca × Int} {a : Ac} (h : Vn s) (hb : s.2 ≤ 100000) : Vn (ls1 q s a, s.2) := by
  unfold ls1
  split
  · rename_i he
    exact do_ok (xs := s.1) (now := s.2) h (by omega) he
  · exact h
theorem sm1_ok {q h : Int} {s : List Ca × Int} {a : Ac} (hv : Vn s) (hb : s.2 ≤ 100000) : Vn (sm1 q h s a) ∧ (sm1 q h s a).2 ≤ s.2 + 9 := by
  have hl := ls1_ok (q := q) (a := a) hv hb
  unfold sm1
  split
  · exact ⟨tick_ok hl (by omega) (by omega), by show s.2 + a.n % 10 ≤ s.2 + 9; omega⟩
  · exact ⟨hl, by show s.2 ≤ s.2 + 9; omega⟩
theorem smO_ok (q h : Int) : ∀ (ys : List Ac), ys.length ≤ 1000 → Vn (smO q h ys) ∧ (smO q h ys).2 ≤ 9 * ys.length := by
  intro ys
  have key : ∀ (ys : List Ac) (s : List Ca × Int), Vn s → s.2 + 9 * ys.length ≤ 100000 → Vn (ys.foldl (sm1 q h) s) ∧ (ys.foldl (sm1 q h) s).2 ≤ s.2 + 9 * ys.length := by
    intro ys
    induction ys with
    | nil => intro s h _; exact ⟨h, by simp⟩
    | cons a r ih =>
      intro s h hb
      rw [List.length_cons] at hb
      obtain ⟨g1, g2⟩ := sm1_ok (q := q) (h := _) (a := a) h (by omega)
      obtain ⟨k1, k2⟩ := ih (sm1 q _ s a) g1 (by omega)
      rw [List.foldl_cons]
      refine ⟨k1, ?_⟩
      rw [List.length_cons]
      omega
  intro hl
  have := key ys ([], 0) Vn.nil (by simp; omega)
  simpa [smO] using this
end Go.Proofs.Ytmaaniokfpkbjaa
