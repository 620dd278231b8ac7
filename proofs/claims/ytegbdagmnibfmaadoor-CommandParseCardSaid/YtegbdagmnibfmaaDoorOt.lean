/-
  A region that draws its order and whose last operation waits, through others, for all the rest (p := T{..} with calls inside): by what holds of each operation once it has come up; the last one stands behind them all. No condition of the program's.
-/
import Derived.Test.YtegbdagmnibfmaaDoorOg
namespace Go.Proofs.YtegbdagmnibfmaaDoor
open Go
section
variable {P : Program} {Q : Exit → Act → World → Prop}

theorem getD_false {ls : Array Bool} {i : Nat} (h : i < ls.size) (h' : ¬ ls.getD i false = true) : ls.getD i true = false := by
  simp [h] at h' ⊢
  exact h'
theorem getD_true {ls : Array Bool} {i : Nat} (h : ls.getD i false = true) : ls.getD i true = true := by
  rcases Nat.lt_or_ge i ls.size with h' | h'
  · simpa [h'] using h
  · simp [h'] at h

/-- The whole region. -/
theorem wp_region_last {id : Nat} {a : Act} {w : World} {l L : List Oper} {o : Oper} (S : World → Prop) (G : World → World → Prop) (F : Nat → Value → World → Prop) (hm : P.follows .mixedOrders = true) (hL : L = l ++ [o]) (hap : ogApart L = true)
    (hacyc : (List.range L.length).all (fun i => (L[i]?).all fun o => o.after.all fun e => !Region.binds .any e || decide (e.on < i)) = true)
    (hwait : (List.range l.length).all (fun i => (List.range L.length).any fun j => (L[j]?).any fun o => o.after.any fun e => Region.binds .any e && decide (e.on = i)) = true)
    (hS : S w.drew) (hG : ∀ i v w w', F i v w → S w → G w w' → F i v w')
    (hstep : OgSteps P L.toArray Q (fun u => ogMk 0 L u a) S G F 0 l)
    (hend : ∀ u w, S w → (∀ i, i < l.length → F i (u i) w) → wpList P L.toArray Q [o] (ogMk 0 L u a) w) : (Code.region id L.toArray true).wp P Q a w := by
  obtain ⟨u0, hu0⟩ := ogMk_own L 0 a
  have hput := ogPut_mk a L hap L 0 fun i o ho => by rwa [Nat.zero_add]
  have hlen : L.length = l.length + 1 := by rw [hL]; simp
  have hlast : L[l.length]? = some o := by rw [hL]; simp
  have hhead : ∀ i o', i ≠ l.length → L[i]? = some o' → l[i]? = some o' := by
    intro i o' hi ho
    rw [hL] at ho
    have : i < l.length := by
      rcases Nat.lt_or_ge i (l.length + 1) with h | h
      · omega
      · rw [List.getElem?_eq_none (by simp; omega)] at ho; cases ho
    rwa [List.getElem?_append_left this] at ho
  suffices H : ∀ a', a' = ogMk 0 L u0 a → (Code.region id L.toArray true).wp P Q a' w from H a hu0.symm
  rintro _ rfl
  refine wp_region_any hm ?_
  have hsz : L.toArray.size = (Array.replicate L.toArray.size false).toList.countP (· == false) := by simp [List.countP_replicate]
  conv => arg 5; rw [hsz]
  refine wpAny_inv (ops := L.toArray) (fun ls a' w => ls.size = L.toArray.size ∧
      ((ls.getD l.length true = false ∧ S w ∧ (∀ i, ls.getD i false = true → ∀ o', L[i]? = some o' → ∀ e ∈ o'.after, Region.binds .any e = true → ls.getD e.on false = true) ∧ ∃ u, a' = ogMk 0 L u a ∧ ∀ i, ls.getD i false = true → F i (u i) w) ∨
       ((∀ i, i < L.length → ls.getD i true = true) ∧ Q .normal a' w))) (fun _ _ _ h => h.1) ?_ ?_ _ _ _ _ rfl ⟨by simp, .inl ⟨by simp [hlen], hS, fun i hi => ?_, u0, rfl, fun i hi => ?_⟩⟩
  · rintro ls a' w i ⟨hl, h⟩ hi
    obtain ⟨hun, o', ho, hall⟩ := mem_ready.1 hi
    have ho' : L[i]? = some o' := by simpa using ho
    have hil : i < ls.size := by
      rcases Nat.lt_or_ge i ls.size with h' | h'
      · exact h'
      · simp [h'] at hun
    have hiL : i < L.length := by simpa [hl] using hil
    rcases h with ⟨hno, hs, hcl, u, rfl, hF⟩ | ⟨hdone, _⟩
    · by_cases hi' : i = l.length
      · subst hi'
        obtain rfl : o' = o := by rw [hlast] at ho'; exact (Option.some.inj ho').symm
        have key : ∀ n i, l.length ≤ i + n → i < l.length → ls.getD i false = true := by
          intro n
          induction n with
          | zero => intro i h1 h2; omega
          | succ n ih =>
            intro i h1 h2
            have hw := List.all_eq_true.1 hwait i (List.mem_range.2 h2)
            obtain ⟨j, hj, hw⟩ := List.any_eq_true.1 hw
            have hjl := List.mem_range.1 hj
            rw [List.getElem?_eq_getElem hjl, Option.any_some, Array.any_eq_true] at hw
            obtain ⟨k, hk, hw⟩ := hw
            simp only [Bool.and_eq_true, decide_eq_true_eq] at hw
            have hij : i < j := by
              have h3 := List.all_eq_true.1 hacyc j hj
              rw [List.getElem?_eq_getElem hjl, Option.all_some, Array.all_eq_true_iff_forall_mem] at h3
              have h4 := h3 _ (Array.getElem_mem hk)
              simp only [hw.1, Bool.not_true, Bool.false_or, decide_eq_true_eq] at h4
              omega
            rw [← hw.2]
            by_cases hjn : j = l.length
            · subst hjn
              have : L[l.length] = o' := by
                have := List.getElem?_eq_getElem hjl
                rw [hlast] at this
                exact (Option.some.inj this).symm
              exact hall _ (this ▸ Array.getElem_mem hk) hw.1
            · exact hcl j (ih j (by omega) (by omega)) _ (List.getElem?_eq_getElem hjl) _ (Array.getElem_mem hk) hw.1
        have key' : ∀ i, i < l.length → ls.getD i false = true := fun i hi => key l.length i (by omega) hi
        have st := hend u w hs fun i hi => hF i (key' i hi)
        have hset : ∀ i, i < L.length → (ls.setIfInBounds l.length true).getD i true = true := by
          intro j hj
          by_cases hjl : j = l.length
          · subst hjl; exact getD_true (getD_set_self hil)
          · rw [getD_set_ne true (Ne.symm hjl)]; exact getD_true (key' j (by omega))
        unfold wpOp
        simp only [ho]
        unfold wpList at st
        split
        · rename_i hw
          rw [if_pos hw] at st
          rcases st with st | st
          · exact .inl (Oper.wp_mono (fun a'' w'' h => ⟨by simpa using hl, .inr ⟨hset, h⟩⟩) st)
          · exact .inr st
        · rename_i hw
          rw [if_neg hw] at st
          exact ⟨by simpa using hl, .inr ⟨hset, st⟩⟩
      · have st := hstep.at (hhead i o' hi' ho') u w hs (fun e he hb => hF _ (hall e he hb))
        rw [Nat.zero_add] at st
        have pt := hput.at ho'
        rw [Nat.zero_add] at pt
        have hno' : (ls.setIfInBounds i true).getD l.length true = false := by rw [getD_set_ne true hi']; exact hno
        have hcl' : ∀ j, (ls.setIfInBounds i true).getD j false = true → ∀ o', L[j]? = some o' → ∀ e ∈ o'.after, Region.binds .any e = true → (ls.setIfInBounds i true).getD e.on false = true := by
          intro j hj oj hoj e he hb
          have up : ls.getD e.on false = true → (ls.setIfInBounds i true).getD e.on false = true := by
            intro h
            by_cases hei : e.on = i
            · rw [hei]; exact getD_set_self hil
            · rw [getD_set_ne false (Ne.symm hei)]; exact h
          by_cases hji : j = i
          · subst hji
            obtain rfl : oj = o' := by rw [ho'] at hoj; exact (Option.some.inj hoj).symm
            exact up (hall e he hb)
          · rw [getD_set_ne false (Ne.symm hji)] at hj
            exact up (hcl j hj oj hoj e he hb)
        unfold wpOp
        simp only [ho]
        split
        · rename_i hw
          rw [if_pos hw] at st
          refine .inl (Oper.wp_mono ?_ st)
          rintro a' w' ⟨v, rfl, hv, hs', hg⟩
          refine ⟨by simpa using hl, .inl ⟨hno', hs', hcl', _, pt u v, fun j hj => ?_⟩⟩
          by_cases hji : j = i
          · subst hji; simpa using hv
          · rw [getD_set_ne false (Ne.symm hji)] at hj
            simp only [hji, if_false]
            exact hG _ _ _ _ (hF j hj) hs hg
        · rename_i hw
          rw [if_neg hw] at st
          refine ⟨by simpa using hl, .inl ⟨hno', hs, hcl', _, pt u undef, fun j hj => ?_⟩⟩
          by_cases hji : j = i
          · subst hji; simpa using st
          · rw [getD_set_ne false (Ne.symm hji)] at hj
            simp only [hji, if_false]
            exact hF j hj
    · rw [hdone i hiL] at hun
      cases hun
  · rintro ls a' w ⟨hl, ⟨hno, hs, hcl, u, rfl, hF⟩ | ⟨_, h⟩⟩ hr
    · exfalso
      have hl' : ls.size = L.length := by simpa using hl
      have key : ∀ n i, i < n → i < L.length → ls.getD i false = true := by
        intro n
        induction n with
        | zero => intro i h; omega
        | succ n ih =>
          intro i hin hil
          by_cases hc : ls.getD i false = true
          · exact hc
          · exfalso
            have hmem : i ∈ Region.ready .any L.toArray ls := by
              refine mem_ready.2 ⟨getD_false (by omega) hc, L[i], by simp [hil], fun e he hb => ?_⟩
              have h1 := List.all_eq_true.1 hacyc i (List.mem_range.2 hil)
              rw [List.getElem?_eq_getElem hil] at h1
              simp only [Option.all_some] at h1
              have h2 := Array.all_eq_true_iff_forall_mem.1 h1 e he
              simp only [hb, Bool.not_true, Bool.false_or, decide_eq_true_eq] at h2
              exact ih e.on (by omega) (by omega)
            rw [hr] at hmem
            cases hmem
      have := getD_true (key (l.length + 1) l.length (by omega) (by omega))
      rw [hno] at this
      cases this
    · exact h
  · exfalso
    rcases Nat.lt_or_ge i L.length with h' | h' <;> simp [h'] at hi
  · exfalso
    rcases Nat.lt_or_ge i L.length with h' | h' <;> simp [h'] at hi
/-- A region that makes memory, and turns nothing that was there but by its last operation, in whatever order. -/
theorem wp_region_below_last {id : Nat} {a : Act} {w : World} {l L : List Oper} {o : Oper} (Φ : List (Value → World → Prop)) (hm : P.follows .mixedOrders = true) (hL : L = l ++ [o]) (hap : ogApart L = true)
    (hacyc : (List.range L.length).all (fun i => (L[i]?).all fun o => o.after.all fun e => !Region.binds .any e || decide (e.on < i)) = true)
    (hwait : (List.range l.length).all (fun i => (List.range L.length).any fun j => (L[j]?).any fun o => o.after.any fun e => Region.binds .any e && decide (e.on = i)) = true)
    (hΦ : ∀ φ ∈ Φ, Stable φ)
    (hstep : OgSteps P L.toArray Q (fun u => ogMk 0 L u a) (fun w' => RowKit.Below w.heap.size w w') (fun w1 w2 => RowKit.Below w1.heap.size w1 w2) (fAt Φ) 0 l)
    (hend : ∀ u w', RowKit.Below w.heap.size w w' → (∀ i, i < l.length → fAt Φ i (u i) w') → wpList P L.toArray Q [o] (ogMk 0 L u a) w') : (Code.region id L.toArray true).wp P Q a w :=
  wp_region_last (fun w' => RowKit.Below w.heap.size w w') (fun w1 w2 => RowKit.Below w1.heap.size w1 w2) (fAt Φ) hm hL hap hacyc hwait (RowKit.Below.refl _ _).drew (fun i v w1 w2 h _ hg => stable_at hΦ i v w1 w2 h hg) hstep hend
/-- The same, the last operation found by itself. -/
theorem wp_region_below_end {id : Nat} {a : Act} {w : World} {L : List Oper} (hne : L ≠ []) (Φ : List (Value → World → Prop)) (hm : P.follows .mixedOrders = true) (hap : ogApart L = true)
    (hacyc : (List.range L.length).all (fun i => (L[i]?).all fun o => o.after.all fun e => !Region.binds .any e || decide (e.on < i)) = true)
    (hwait : (List.range L.dropLast.length).all (fun i => (List.range L.length).any fun j => (L[j]?).any fun o => o.after.any fun e => Region.binds .any e && decide (e.on = i)) = true)
    (hΦ : ∀ φ ∈ Φ, Stable φ)
    (hstep : OgSteps P L.toArray Q (fun u => ogMk 0 L u a) (fun w' => RowKit.Below w.heap.size w w') (fun w1 w2 => RowKit.Below w1.heap.size w1 w2) (fAt Φ) 0 L.dropLast)
    (hend : ∀ u w', RowKit.Below w.heap.size w w' → (∀ i, i < L.dropLast.length → fAt Φ i (u i) w') → wpList P L.toArray Q [L.getLast hne] (ogMk 0 L u a) w') : (Code.region id L.toArray true).wp P Q a w :=
  wp_region_below_last Φ hm (List.dropLast_concat_getLast hne).symm hap hacyc hwait hΦ hstep hend
end
end Go.Proofs.YtegbdagmnibfmaaDoor
