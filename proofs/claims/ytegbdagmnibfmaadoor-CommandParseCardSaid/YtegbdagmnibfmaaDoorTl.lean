/-
  A region that draws its order and whose last operations wait, one behind the other, for all the rest (append into a row that was made ahead of it, and the assignment): by what holds of each of the first ones once it has come up; the last ones are a list behind them. Also: operations with a guard. No condition of the program's.
-/
import Derived.Test.YtegbdagmnibfmaaDoorOt
namespace Go.Proofs.YtegbdagmnibfmaaDoor
open Go
section
variable {P : Program} {Q : Exit → Act → World → Prop}

/-- Operation k waits, through others, for all ahead of it. -/
def waitB (L : List Oper) (k : Nat) : Bool := (List.range k).all fun i => (List.range (k + 1)).any fun j => (L[j]?).any fun o => o.after.any fun e => Region.binds .any e && decide (e.on = i)

theorem wait_all {L : List Oper} {ls : Array Bool} {k : Nat} {ok : Oper} (hk : L[k]? = some ok) (hw : waitB L k = true)
    (hacyc : (List.range L.length).all (fun i => (L[i]?).all fun o => o.after.all fun e => !Region.binds .any e || decide (e.on < i)) = true)
    (hcl : ∀ i, ls.getD i false = true → ∀ o', L[i]? = some o' → ∀ e ∈ o'.after, Region.binds .any e = true → ls.getD e.on false = true)
    (hall : ∀ e ∈ ok.after, Region.binds .any e = true → ls.getD e.on false = true) : ∀ i, i < k → ls.getD i false = true := by
  have key : ∀ n i, k ≤ i + n → i < k → ls.getD i false = true := by
    intro n
    induction n with
    | zero => intro i h1 h2; omega
    | succ n ih =>
      intro i h1 h2
      obtain ⟨j, hj, hw2⟩ := List.any_eq_true.1 (List.all_eq_true.1 hw i (List.mem_range.2 h2))
      have hjk := List.mem_range.1 hj
      have hkl := (List.getElem?_eq_some_iff.1 hk).1
      have hjl : j < L.length := by omega
      rw [List.getElem?_eq_getElem hjl, Option.any_some, Array.any_eq_true] at hw2
      obtain ⟨q, hq, hw3⟩ := hw2
      simp only [Bool.and_eq_true, decide_eq_true_eq] at hw3
      have hij : i < j := by
        have h3 := List.all_eq_true.1 hacyc j (List.mem_range.2 hjl)
        rw [List.getElem?_eq_getElem hjl, Option.all_some, Array.all_eq_true_iff_forall_mem] at h3
        have h4 := h3 _ (Array.getElem_mem hq)
        simp only [hw3.1, Bool.not_true, Bool.false_or, decide_eq_true_eq] at h4
        omega
      rw [← hw3.2]
      by_cases hjn : j = k
      · subst hjn
        have : L[j] = ok := by
          rw [List.getElem?_eq_getElem hjl] at hk
          exact Option.some.inj hk
        exact hall _ (this ▸ Array.getElem_mem hq) hw3.1
      · exact hcl j (ih j (by omega) (by omega)) _ (List.getElem?_eq_getElem hjl) _ (Array.getElem_mem hq) hw3.1
  intro i hi
  exact key k i (by omega) hi

/-- The whole region. -/
theorem wp_region_tail {id : Nat} {a : Act} {w : World} {l T L : List Oper} (S : World → Prop) (G : World → World → Prop) (F : Nat → Value → World → Prop) (hm : P.follows .mixedOrders = true) (hL : L = l ++ T) (hT : T ≠ []) (hap : ogApart l = true)
    (hacyc : (List.range L.length).all (fun i => (L[i]?).all fun o => o.after.all fun e => !Region.binds .any e || decide (e.on < i)) = true)
    (hwait : (List.range T.length).all (fun m => waitB L (l.length + m)) = true)
    (hS : S w.drew) (hG : ∀ i v w w', F i v w → S w → G w w' → F i v w')
    (hstep : OgSteps P L.toArray Q (fun u => ogMk 0 l u a) S G F 0 l)
    (hend : ∀ u w, S w → (∀ i, i < l.length → F i (u i) w) → wpList P L.toArray Q T (ogMk 0 l u a) w) : (Code.region id L.toArray true).wp P Q a w := by
  obtain ⟨u0, hu0⟩ := ogMk_own l 0 a
  have hput := ogPut_mk a l hap l 0 fun i o ho => by rwa [Nat.zero_add]
  have hlen : L.length = l.length + T.length := by rw [hL]; simp
  have hTp : 0 < T.length := List.length_pos_iff.2 hT
  have hhead : ∀ i o', i < l.length → L[i]? = some o' → l[i]? = some o' := by
    intro i o' hi ho
    rw [hL, List.getElem?_append_left hi] at ho
    exact ho
  have htail : ∀ m, L[l.length + m]? = T[m]? := by
    intro m
    rw [hL, List.getElem?_append_right (by omega)]
    congr 1
    omega
  suffices H : ∀ a', a' = ogMk 0 l u0 a → (Code.region id L.toArray true).wp P Q a' w from H a hu0.symm
  rintro _ rfl
  refine wp_region_any hm ?_
  have hsz : L.toArray.size = (Array.replicate L.toArray.size false).toList.countP (· == false) := by simp [List.countP_replicate]
  conv => arg 5; rw [hsz]
  refine wpAny_inv (ops := L.toArray) (fun ls a' w => ls.size = L.toArray.size ∧ (∀ i, ls.getD i false = true → ∀ o', L[i]? = some o' → ∀ e ∈ o'.after, Region.binds .any e = true → ls.getD e.on false = true) ∧
      ∃ m, m ≤ T.length ∧ (∀ j, l.length + m ≤ j → j < L.length → ls.getD j false = false) ∧
      ((m = 0 ∧ S w ∧ ∃ u, a' = ogMk 0 l u a ∧ ∀ i, ls.getD i false = true → F i (u i) w) ∨
       (0 < m ∧ (∀ i, i < l.length + m → ls.getD i false = true) ∧ wpList P L.toArray Q (T.drop m) a' w))) (fun _ _ _ h => h.1) ?_ ?_ _ _ _ _ rfl ⟨by simp, fun i hi => ?_, 0, by omega, fun j h1 h2 => ?_, .inl ⟨rfl, hS, u0, rfl, fun i hi => ?_⟩⟩
  · rintro ls a' w i ⟨hl, hcl, m, hm', hno, h⟩ hi
    obtain ⟨hun, o', ho, hall⟩ := mem_ready.1 hi
    have ho' : L[i]? = some o' := by simpa using ho
    have hil : i < ls.size := by
      rcases Nat.lt_or_ge i ls.size with h' | h'
      · exact h'
      · simp [h'] at hun
    have hiL : i < L.length := by simpa [hl] using hil
    have hun' : ls.getD i false = false := by simpa [hil] using hun
    have hcl' : ∀ j, (ls.setIfInBounds i true).getD j false = true → ∀ o', L[j]? = some o' → ∀ e ∈ o'.after, Region.binds .any e = true → (ls.setIfInBounds i true).getD e.on false = true := by
      intro j hj oj hoj e he hb
      have up : ls.getD e.on false = true → (ls.setIfInBounds i true).getD e.on false = true := by
        intro h
        by_cases hei : e.on = i
        · rw [hei]; exact getD_set_self hil
        · rw [getD_set_ne false (Ne.symm hei)]; exact h
      by_cases hji : j = i
      · subst hji
        obtain rfl : oj = o' := by rw [ho'] at hoj; exact (Option.some.inj hoj).symm
        exact up (hall e he hb)
      · rw [getD_set_ne false (Ne.symm hji)] at hj
        exact up (hcl j hj oj hoj e he hb)
    by_cases hil' : i < l.length
    · rcases h with ⟨rfl, hs, u, rfl, hF⟩ | ⟨_, hdone, _⟩
      · have st := hstep.at (hhead i o' hil' ho') u w hs (fun e he hb => hF _ (hall e he hb))
        rw [Nat.zero_add] at st
        have pt := hput.at (hhead i o' hil' ho')
        rw [Nat.zero_add] at pt
        have hno' : ∀ j, l.length + 0 ≤ j → j < L.length → (ls.setIfInBounds i true).getD j false = false := fun j h1 h2 => by
          rw [getD_set_ne false (by omega)]; exact hno j h1 h2
        unfold wpOp
        simp only [ho]
        split
        · rename_i hw
          rw [if_pos hw] at st
          refine .inl (Oper.wp_mono ?_ st)
          rintro a' w' ⟨v, rfl, hv, hs', hg⟩
          refine ⟨by simpa using hl, hcl', 0, by omega, hno', .inl ⟨rfl, hs', _, pt u v, fun j hj => ?_⟩⟩
          by_cases hji : j = i
          · subst hji; simpa using hv
          · rw [getD_set_ne false (Ne.symm hji)] at hj
            simp only [hji, if_false]
            exact hG _ _ _ _ (hF j hj) hs hg
        · rename_i hw
          rw [if_neg hw] at st
          refine ⟨by simpa using hl, hcl', 0, by omega, hno', .inl ⟨rfl, hs, _, pt u undef, fun j hj => ?_⟩⟩
          by_cases hji : j = i
          · subst hji; simpa using st
          · rw [getD_set_ne false (Ne.symm hji)] at hj
            simp only [hji, if_false]
            exact hF j hj
      · rw [hdone i (by omega)] at hun'
        cases hun'
    · obtain ⟨q, rfl⟩ : ∃ q, i = l.length + q := ⟨i - l.length, by omega⟩
      have hqT : q < T.length := by omega
      have hbefore := wait_all ho' (List.all_eq_true.1 hwait q (List.mem_range.2 hqT)) hacyc hcl hall
      have hqm : q = m := by
        rcases Nat.lt_trichotomy q m with hlt | heq | hgt
        · rcases h with ⟨rfl, _⟩ | ⟨_, hdone, _⟩
          · omega
          · rw [hdone _ (by omega)] at hun'
            cases hun'
        · exact heq
        · have h1 := hbefore (l.length + m) (by omega)
          rw [hno (l.length + m) (by omega) (by omega)] at h1
          cases h1
      subst hqm
      have st : wpList P L.toArray Q (T.drop q) a' w := by
        rcases h with ⟨rfl, hs, u, rfl, hF⟩ | ⟨_, _, h⟩
        · rw [List.drop_zero]
          exact hend u w hs fun i hi => hF i (hbefore i (by omega))
        · exact h
      have hTq : T.drop q = o' :: T.drop (q + 1) := by
        rw [List.drop_eq_getElem_cons hqT]
        congr 1
        have := htail q
        rw [ho', List.getElem?_eq_getElem hqT] at this
        exact (Option.some.inj this).symm
      rw [hTq] at st
      have hno' : ∀ j, l.length + (q + 1) ≤ j → j < L.length → (ls.setIfInBounds (l.length + q) true).getD j false = false := fun j h1 h2 => by
        rw [getD_set_ne false (by omega)]; exact hno j (by omega) h2
      have hset : ∀ i, i < l.length + (q + 1) → (ls.setIfInBounds (l.length + q) true).getD i false = true := by
        intro j hj
        by_cases hjl : j = l.length + q
        · subst hjl; exact getD_set_self hil
        · rw [getD_set_ne false (Ne.symm hjl)]; exact hbefore j (by omega)
      unfold wpOp
      simp only [ho]
      unfold wpList at st
      split
      · rename_i hw
        rw [if_pos hw] at st
        rcases st with st | st
        · exact .inl (Oper.wp_mono (fun a'' w'' h => ⟨by simpa using hl, hcl', q + 1, by omega, hno', .inr ⟨by omega, hset, h⟩⟩) st)
        · exact .inr st
      · rename_i hw
        rw [if_neg hw] at st
        exact ⟨by simpa using hl, hcl', q + 1, by omega, hno', .inr ⟨by omega, hset, st⟩⟩
  · rintro ls a' w ⟨hl, hcl, m, hm', hno, h⟩ hr
    have hl' : ls.size = L.length := by simpa using hl
    have key : ∀ n i, i < n → i < L.length → ls.getD i false = true := by
      intro n
      induction n with
      | zero => intro i h; omega
      | succ n ih =>
        intro i hin hil
        by_cases hc : ls.getD i false = true
        · exact hc
        · exfalso
          have hmem : i ∈ Region.ready .any L.toArray ls := by
            refine mem_ready.2 ⟨getD_false (by omega) hc, L[i], by simp [hil], fun e he hb => ?_⟩
            have h1 := List.all_eq_true.1 hacyc i (List.mem_range.2 hil)
            rw [List.getElem?_eq_getElem hil] at h1
            simp only [Option.all_some] at h1
            have h2 := Array.all_eq_true_iff_forall_mem.1 h1 e he
            simp only [hb, Bool.not_true, Bool.false_or, decide_eq_true_eq] at h2
            exact ih e.on (by omega) (by omega)
          rw [hr] at hmem
          cases hmem
    rcases Nat.lt_or_ge m T.length with hlt | hge
    · exfalso
      have h1 := key (l.length + m + 1) (l.length + m) (by omega) (by omega)
      rw [hno _ (by omega) (by omega)] at h1
      cases h1
    · rcases h with ⟨rfl, _⟩ | ⟨_, _, h⟩
      · omega
      · rw [List.drop_eq_nil_of_le hge] at h
        exact h
  · exfalso
    rcases Nat.lt_or_ge i L.length with h' | h' <;> simp [h'] at hi
  · simp [h2]
  · exfalso
    rcases Nat.lt_or_ge i L.length with h' | h' <;> simp [h'] at hi
/-- A region whose first n operations make memory, and turn nothing that was there, in whatever order; the last ones stand behind them. -/
theorem wp_region_below_tail {id : Nat} {a : Act} {w : World} {L : List Oper} (n : Nat) (Φ : List (Value → World → Prop)) (hm : P.follows .mixedOrders = true) (hT : L.drop n ≠ []) (hap : ogApart (L.take n) = true)
    (hacyc : (List.range L.length).all (fun i => (L[i]?).all fun o => o.after.all fun e => !Region.binds .any e || decide (e.on < i)) = true)
    (hwait : (List.range (L.drop n).length).all (fun m => waitB L ((L.take n).length + m)) = true)
    (hΦ : ∀ φ ∈ Φ, Stable φ)
    (hstep : OgSteps P L.toArray Q (fun u => ogMk 0 (L.take n) u a) (fun w' => RowKit.Below w.heap.size w w') (fun w1 w2 => RowKit.Below w1.heap.size w1 w2) (fAt Φ) 0 (L.take n))
    (hend : ∀ u w', RowKit.Below w.heap.size w w' → (∀ i, i < (L.take n).length → fAt Φ i (u i) w') → wpList P L.toArray Q (L.drop n) (ogMk 0 (L.take n) u a) w') : (Code.region id L.toArray true).wp P Q a w :=
  wp_region_tail (fun w' => RowKit.Below w.heap.size w w') (fun w1 w2 => RowKit.Below w1.heap.size w1 w2) (fAt Φ) hm (List.take_append_drop n L).symm hT hap hacyc hwait (RowKit.Below.refl _ _).drew (fun i v w1 w2 h _ hg => stable_at hΦ i v w1 w2 h hg) hstep hend

/-- An operation whose guard does not ask for it. -/
theorem OgStep.skip {ops : Array Oper} {mk : (Nat → Value) → Act} {Φ : List (Value → World → Prop)} {i : Nat} {o : Oper} {w0 : World} (hi : fAt Φ i = fx undef)
    (h : ∀ u w, (∀ e ∈ o.after, Region.binds .any e = true → fAt Φ e.on (u e.on) w) → Region.wanted o (yielded ops (mk u).tmps) = false) :
    OgStep P ops Q mk (fun w' => RowKit.Below w0.heap.size w0 w') (fun w1 w2 => RowKit.Below w1.heap.size w1 w2) (fAt Φ) i o := by
  intro u w hS hp
  rw [if_neg (by rw [h u w hp]; simp), hi]
  rfl
/-- One with a guard that asks for it. -/
theorem OgStep.want {ops : Array Oper} {mk : (Nat → Value) → Act} {F : Nat → Value → World → Prop} {S : World → Prop} {G : World → World → Prop} {i : Nat} {o : Oper}
    (hw : ∀ u w, S w → (∀ e ∈ o.after, Region.binds .any e = true → F e.on (u e.on) w) → Region.wanted o (yielded ops (mk u).tmps) = true)
    (h : ∀ u w, S w → (∀ e ∈ o.after, Region.binds .any e = true → F e.on (u e.on) w) → o.wp P (mk u) w (fun a' w' => ∃ v, a' = (mk u).put o.dst v ∧ F i v w' ∧ S w' ∧ G w w') Q) : OgStep P ops Q mk S G F i o := by
  intro u w hS hp
  rw [if_pos (hw u w hS hp)]
  exact h u w hS hp
theorem OgStep.made' {ops : Array Oper} {mk : (Nat → Value) → Act} {Φ : List (Value → World → Prop)} {i : Nat} {o : Oper} {w0 : World}
    (hw : ∀ u w, (∀ e ∈ o.after, Region.binds .any e = true → fAt Φ e.on (u e.on) w) → Region.wanted o (yielded ops (mk u).tmps) = true)
    (h : ∀ u w, RowKit.Below w0.heap.size w0 w → (∀ e ∈ o.after, Region.binds .any e = true → fAt Φ e.on (u e.on) w) → ∃ v w', (execOp (mk u).eval o).run P w = .ok (.value v) w' ∧ RowKit.Below w.heap.size w w' ∧ fAt Φ i v w') :
    OgStep P ops Q mk (fun w' => RowKit.Below w0.heap.size w0 w') (fun w1 w2 => RowKit.Below w1.heap.size w1 w2) (fAt Φ) i o :=
  OgStep.want (fun u w _ hp => hw u w hp) fun u w hS hp => by
    obtain ⟨v, w', hr, hB, hF⟩ := h u w hS hp
    unfold Oper.wp
    rw [hr]
    exact ⟨v, rfl, hF, hS.trans (hB.mono hS.size), hB⟩
theorem OgStep.pure' {ops : Array Oper} {mk : (Nat → Value) → Act} {Φ : List (Value → World → Prop)} {i : Nat} {o : Oper} {w0 : World}
    (hw : ∀ u w, (∀ e ∈ o.after, Region.binds .any e = true → fAt Φ e.on (u e.on) w) → Region.wanted o (yielded ops (mk u).tmps) = true)
    (h : ∀ u w, RowKit.Below w0.heap.size w0 w → (∀ e ∈ o.after, Region.binds .any e = true → fAt Φ e.on (u e.on) w) → ∃ v, (execOp (mk u).eval o).run P w = .ok (.value v) w ∧ fAt Φ i v w) :
    OgStep P ops Q mk (fun w' => RowKit.Below w0.heap.size w0 w') (fun w1 w2 => RowKit.Below w1.heap.size w1 w2) (fAt Φ) i o :=
  OgStep.made' hw fun u w hS hp => by
    obtain ⟨v, hr, hF⟩ := h u w hS hp
    exact ⟨v, w, hr, RowKit.Below.refl _ _, hF⟩
theorem OgStep.calls' {ops : Array Oper} {mk : (Nat → Value) → Act} {Φ : List (Value → World → Prop)} {i : Nat} {o : Oper} {w0 : World}
    (hw : ∀ u w, (∀ e ∈ o.after, Region.binds .any e = true → fAt Φ e.on (u e.on) w) → Region.wanted o (yielded ops (mk u).tmps) = true)
    (h : ∀ u w, RowKit.Below w0.heap.size w0 w → (∀ e ∈ o.after, Region.binds .any e = true → fAt Φ e.on (u e.on) w) →
      ∃ f args, (execOp (mk u).eval o).run P w = .ok (.enter f args) w ∧ Calls P f args w fun e w' => ∃ v, e = .returned v ∧ RowKit.Below w.heap.size w w' ∧ fAt Φ i v w') :
    OgStep P ops Q mk (fun w' => RowKit.Below w0.heap.size w0 w') (fun w1 w2 => RowKit.Below w1.heap.size w1 w2) (fAt Φ) i o :=
  OgStep.want (fun u w _ hp => hw u w hp) fun u w hS hp => by
    obtain ⟨f, args, hr, hc⟩ := h u w hS hp
    unfold Oper.wp
    rw [hr]
    refine hc.mono ?_
    rintro e w' ⟨v, rfl, hB, hF⟩
    exact ⟨v, rfl, hF, hS.trans (hB.mono hS.size), hB⟩
end
end Go.Proofs.YtegbdagmnibfmaaDoor
