/-
  As the text on mixed regions, where what may be taken first need be the same only in the worlds of a class, which every operation that comes up alone keeps. No condition of the program's.
-/
import Derived.Test.YtbfkpapankgndaaMx
namespace Go.Proofs.Ytbfkpapankgndaa
open Go
section
variable {F : Fence} {n : Nat} {P : Program} {ops : Array Oper} {Q : Exit → Act → World → Prop} {solo : Nat → Bool} {C : World → Prop}

def pureOpC : Op → Bool
  | .binOp .. | .unOp .. => true
  | o => pureOp o
theorem pure_noenterC {o : Oper} {ρ : Operand → Value} (h : pureOpC o.op = true) : NoEnter P (execOp ρ o) := by
  by_cases hp : pureOp o.op = true
  · exact pure_noenter hp
  · unfold execOp
    cases ho : o.op <;> rw [ho] at h hp <;> first | (exact absurd h hp) | (exact noEnter_bind fun _ => noEnter_value _)
def pureBC (ops : Array Oper) (solo : Nat → Bool) : List Nat → Array Bool → Bool
  | [], _ => true
  | k :: is, ls => ((ops[k]?).any fun o => pureOpC o.op) && !solo k && (Region.ready .any ops ls).contains k && Region.free .any ops ls k && pureBC ops solo is (ls.setIfInBounds k true)

/-- Whatever order is picked; the quiet ones leave the world as it is. -/
def wpAnyC (C : World → Prop) (F : Fence) (n : Nat) (P : Program) (ops : Array Oper) (Q : Exit → Act → World → Prop) (solo : Nat → Bool) : Nat → Array Bool → Act → World → Prop
  | 0, ls, a, w => Region.ready .any ops ls = [] ∧ Q .normal a w
  | f + 1, ls, a, w => (Region.ready .any ops ls = [] → Q .normal a w) ∧
    ∀ i ∈ Region.ready .any ops ls, if solo i = true then wpOpIn F n P ops Q i (fun a' w' => C w' ∧ wpAnyC C F n P ops Q solo f (ls.setIfInBounds i true) a' w') a w
      else qOpIn F n P ops (fun w' => w' = w) i (fun a' => wpAnyC C F n P ops Q solo f (ls.setIfInBounds i true) a' w) a

theorem any_of_C (hro : F.round = none) : ∀ (f : Nat) (ls : Array Bool) (a : Act) (w : World), wpAnyC C F n P ops Q solo f ls a w → wpAnyIn F n P .any ops Q f ls a w
  | 0, _, _, _, h => h
  | f + 1, ls, a, w, h => ⟨h.1, fun i hi => by
      have h2 := h.2 i hi
      split at h2
      · exact wpOpIn_mono (fun a' w' h' => any_of_C hro f _ a' w' h'.2) h2
      · exact wpOpIn_of_qOpIn hro (C := fun w' => w' = w) rfl (fun a' w' hw' h' => by subst hw'; exact any_of_C hro f _ a' _ h') h2⟩

theorem anyC_first {i : Nat} {oi : Oper} {v : Value} {w : World} (hi : ops[i]? = some oi) (his : solo i = false) (hsel : ∀ (j : Nat) (o : Oper) cs b, ops[j]? = some o → o.op ≠ .select cs b) :
    ∀ (fuel : Nat) (ls : Array Bool) (a : Act), MxClosed ops ls →
      (∀ j oj, ops[j]? = some oj → j ≠ i → ls.getD j true = false → (solo j = false ∧ ((∀ e ∈ oj.after, Region.binds .any e = true → e.on ≠ i) → oi.apart ops oj = true)) ∨ ∃ f, waitsB ops f j i = true) →
      i ∈ Region.ready .any ops ls → YieldsQuiet F n P ops (fun w' => w' = w) oi v a →
      wpAnyC C F n P ops Q solo fuel (ls.setIfInBounds i true) (a.put oi.dst v) w → wpAnyC C F n P ops Q solo (fuel + 1) ls a w := by
  intro fuel
  induction fuel with
  | zero =>
    intro ls a hc hfree hr hy H
    refine ⟨fun h => (by rw [h] at hr; cases hr), fun j hj => ?_⟩
    by_cases hji : j = i
    · subst hji; rw [if_neg (by simp [his])]; exact hy.qOpIn hi H
    · have := ready_mono hj hji
      rw [H.1] at this
      cases this
  | succ fuel ih =>
    intro ls a hc hfree hr hy H
    refine ⟨fun h => (by rw [h] at hr; cases hr), fun j hj => ?_⟩
    by_cases hji : j = i
    · subst hji; rw [if_neg (by simp [his])]; exact hy.qOpIn hi H
    · have h1 := H.2 j (ready_mono hj hji)
      obtain ⟨hjun, oj, hoj, hall⟩ := mem_ready.1 hj
      have hiun := (mem_ready.1 hr).1
      rcases hfree j oj hoj hji hjun with ⟨hjs, hap⟩ | ⟨f, hw⟩
      · have hnot : ∀ e ∈ oj.after, Region.binds .any e = true → e.on ≠ i := fun e he hb heq => by
          have h1 := hall e he hb
          rw [heq] at h1
          rcases Nat.lt_or_ge i ls.size with h' | h'
          · simp [h'] at hiun h1; rw [hiun] at h1; cases h1
          · simp [Array.getElem?_eq_none h'] at h1
        rw [if_neg (by simp [hjs])] at h1 ⊢
        have h2 := qOpIn_put hoj (hap hnot) (fun cs b => hsel i oi cs b hi) (fun cs b => hsel j oj cs b hoj) hy h1
        have hfree' : ∀ k ok, ops[k]? = some ok → k ≠ i → (ls.setIfInBounds j true).getD k true = false →
            (solo k = false ∧ ((∀ e ∈ ok.after, Region.binds .any e = true → e.on ≠ i) → oi.apart ops ok = true)) ∨ ∃ f, waitsB ops f k i = true := fun k ok hk hki hun => by
          refine hfree k ok hk hki ?_
          by_cases hjk : j = k
          · subst hjk; exact hjun
          · rw [getD_set_ne true hjk] at hun; exact hun
        refine qOpIn_mono (fun a' h3 => ih (ls.setIfInBounds j true) a' (closed_set hc hj) hfree' (ready_mono hr (Ne.symm hji)) h3.1 ?_) h2
        rw [Array.setIfInBounds_comm _ _ hji]
        exact h3.2
      · exact absurd hj (not_ready hc hw hiun)

theorem anyC_pure {i : Nat} {oi : Oper} {v : Value} (hro : F.round = none) (hi : ops[i]? = some oi) (his : solo i = false) (hsel : ∀ (j : Nat) (o : Oper) cs b, ops[j]? = some o → o.op ≠ .select cs b)
    (hQ : ∀ c a w d v, Q (.panic c) (a.put d v) w → Q (.panic c) a w) :
    ∀ (fuel : Nat) (ls : Array Bool) (a : Act) (w : World), C w →
      (∀ j oj, ops[j]? = some oj → j ≠ i → ls.getD j true = false → (∀ e ∈ oj.after, Region.binds .any e = true → e.on ≠ i) → oi.apart ops oj = true) →
      i ∈ Region.ready .any ops ls → YieldsQuiet F n P ops C oi v a → (∀ a' w, C w → YieldsQuiet F n P ops C oi v a' → YieldsQuiet F n P ops (fun w' => w' = w) oi v a') →
      wpAnyC C F n P ops Q solo fuel (ls.setIfInBounds i true) (a.put oi.dst v) w → wpAnyC C F n P ops Q solo (fuel + 1) ls a w := by
  intro fuel
  induction fuel with
  | zero =>
    intro ls a w hC hfree hr hy hnar H
    refine ⟨fun h => (by rw [h] at hr; cases hr), fun j hj => ?_⟩
    by_cases hji : j = i
    · subst hji; rw [if_neg (by simp [his])]; exact (hnar a w hC hy).qOpIn hi H
    · have := ready_mono hj hji
      rw [H.1] at this
      cases this
  | succ fuel ih =>
    intro ls a w hC hfree hr hy hnar H
    refine ⟨fun h => (by rw [h] at hr; cases hr), fun j hj => ?_⟩
    by_cases hji : j = i
    · subst hji; rw [if_neg (by simp [his])]; exact (hnar a w hC hy).qOpIn hi H
    · have h1 := H.2 j (ready_mono hj hji)
      obtain ⟨hjun, oj, hoj, hall⟩ := mem_ready.1 hj
      have hiun := (mem_ready.1 hr).1
      have hnot : ∀ e ∈ oj.after, Region.binds .any e = true → e.on ≠ i := fun e he hb heq => by
        have h1 := hall e he hb
        rw [heq] at h1
        rcases Nat.lt_or_ge i ls.size with h' | h'
        · simp [h'] at hiun h1; rw [hiun] at h1; cases h1
        · simp [Array.getElem?_eq_none h'] at h1
      have hap := hfree j oj hoj hji hjun hnot
      have hfree' : ∀ k ok, ops[k]? = some ok → k ≠ i → (ls.setIfInBounds j true).getD k true = false →
          (∀ e ∈ ok.after, Region.binds .any e = true → e.on ≠ i) → oi.apart ops ok = true := fun k ok hk hki hun hno => by
        refine hfree k ok hk hki ?_ hno
        by_cases hjk : j = k
        · subst hjk; exact hjun
        · rw [getD_set_ne true hjk] at hun; exact hun
      by_cases hs : solo j = true
      · rw [if_pos hs] at h1 ⊢
        have h2 := wpOpIn_putT hro hoj hap (fun cs b => hsel i oi cs b hi) (fun cs b => hsel j oj cs b hoj) (fun c a w h => hQ c a w _ _ h) hy h1
        refine wpOpIn_mono (fun a' w' h3 => ⟨h3.2.1, ih (ls.setIfInBounds j true) a' w' h3.2.1 hfree' (ready_mono hr (Ne.symm hji)) h3.1 hnar ?_⟩) h2
        rw [Array.setIfInBounds_comm _ _ hji]
        exact h3.2.2
      · rw [if_neg hs] at h1 ⊢
        have h2 := qOpIn_putT hoj hap (fun cs b => hsel i oi cs b hi) (fun cs b => hsel j oj cs b hoj) hy h1
        refine qOpIn_mono (fun a' h3 => ih (ls.setIfInBounds j true) a' w hC hfree' (ready_mono hr (Ne.symm hji)) h3.1 hnar ?_) h2
        rw [Array.setIfInBounds_comm _ _ hji]
        exact h3.2

/-- An operation that is no call, quiet in every world, is quiet in each. -/
theorem narrowC_of {C : World → Prop} {o : Oper} {v : Value} {a : Act} {w : World} (hC : C w) (hc : ∀ f args w', (execOp a.eval o).run P w ≠ .ok (.enter f args) w') (h : YieldsQuiet F n P ops C o v a) : YieldsQuiet F n P ops (fun w' => w' = w) o v a := by
  refine ⟨fun w' e => h.1 w' (e ▸ hC), ?_⟩
  rcases h.2 with ⟨hw, hv⟩ | h2
  · refine .inl ⟨hw, fun w' hw' => ?_⟩
    subst hw'
    have h3 := hv w' hC
    unfold Oper.quietAtIn at *
    generalize hr : (execOp a.eval o).run P w' = r at *
    cases r with
    | ok x w'' =>
      cases x <;> simp only [Oper.quietUponIn] at h3 ⊢
      case value u => exact h3
      case skip => exact h3
      case enter f args => exact absurd rfl (hc f args w'')
    | halt x w'' => simp only [Oper.quietUponIn] at h3
  · exact .inr h2

theorem atC_quiet_one {f k : Nat} {o : Oper} {a : Act} {w : World} {ls : Array Bool} (ho : ops[k]? = some o) (hs : solo k = false) (hsel : Region.noSelect ops = true) (hr : (Region.ready .any ops ls).contains k = true)
    (hf : freeM ops solo ls k = true) (hc : closedB ops ls = true) (h : qOpIn F n P ops (fun w' => w' = w) k (fun a' => wpAnyC C F n P ops Q solo f (ls.setIfInBounds k true) a' w) a) : wpAnyC C F n P ops Q solo (f + 1) ls a w := by
  obtain ⟨v, hy, hK⟩ := yieldsQuiet_of_qOpIn ho h
  exact anyC_first ho hs (Region.noSelect_spec hsel) f _ a (closed_of_B hc) (free_of_M ho hf) (by simpa using hr) hy hK

/-- A row of operations that only read. -/
theorem atC_quiet {w : World} (hsel : Region.noSelect ops = true) : ∀ (is : List Nat) (f : Nat) (ls : Array Bool) (a : Act), segB ops solo is ls = true →
    wpQuietIn F n P ops (fun w' => w' = w) (fun a' => wpAnyC C F n P ops Q solo f (lsSet ls is) a' w) (opsAt ops is) a → wpAnyC C F n P ops Q solo (f + is.length) ls a w
  | [], _, _, _, _, h => h
  | k :: is, f, ls, a, hB, h => by
    simp only [segB, Bool.and_eq_true] at hB
    obtain ⟨⟨⟨⟨⟨h0, h1⟩, h2⟩, h3⟩, h4⟩, h5⟩ := hB
    obtain ⟨o, h0⟩ := Option.isSome_iff_exists.1 h0
    have e : f + (k :: is).length = (f + is.length) + 1 := by simp; omega
    rw [e]
    refine atC_quiet_one h0 (by simpa using h1) hsel h2 h3 h4 ?_
    unfold qOpIn
    simp only [h0]
    simp only [opsAt, h0, Option.toList_some, List.singleton_append] at h
    refine ⟨h.1, ?_⟩
    have hrec : ∀ a', wpQuietIn F n P ops (fun w' => w' = w) (fun a' => wpAnyC C F n P ops Q solo f (lsSet ls (k :: is)) a' w) (opsAt ops is) a' → wpAnyC C F n P ops Q solo (f + is.length) (ls.setIfInBounds k true) a' w := fun a' h' =>
      atC_quiet hsel is f _ a' h5 h'
    have h6 := h.2
    split
    · rename_i hw; rw [if_pos hw] at h6; exact Oper.quietIn_mono hrec h6
    · rename_i hw; rw [if_neg hw] at h6; exact hrec _ h6

/-- A row of operations that are the same in every world. -/
theorem atC_pure {w : World} (hCw : C w) (hro : F.round = none) (hsel : Region.noSelect ops = true) (hQ : ∀ c a w d v, Q (.panic c) (a.put d v) w → Q (.panic c) a w) : ∀ (is : List Nat) (f : Nat) (ls : Array Bool) (a : Act), pureBC ops solo is ls = true →
    wpQuietIn F n P ops C (fun a' => wpAnyC C F n P ops Q solo f (lsSet ls is) a' w) (opsAt ops is) a → wpAnyC C F n P ops Q solo (f + is.length) ls a w
  | [], _, _, _, _, h => h
  | k :: is, f, ls, a, hB, h => by
    simp only [pureBC, Bool.and_eq_true] at hB
    obtain ⟨⟨⟨⟨h0, h1⟩, h2⟩, h3⟩, h5⟩ := hB
    obtain ⟨o, h0, hp⟩ : ∃ o, ops[k]? = some o ∧ pureOpC o.op = true := by
      cases ho : ops[k]? with
      | none => rw [ho] at h0; cases h0
      | some o => rw [ho] at h0; exact ⟨o, rfl, h0⟩
    have e : f + (k :: is).length = (f + is.length) + 1 := by simp; omega
    rw [e]
    simp only [opsAt, h0, Option.toList_some, List.singleton_append] at h
    have hq : qOpIn F n P ops C k (fun a' => wpAnyC C F n P ops Q solo (f + is.length) (ls.setIfInBounds k true) a' w) a := by
      unfold qOpIn
      simp only [h0]
      refine ⟨h.1, ?_⟩
      have hrec : ∀ a', wpQuietIn F n P ops C (fun a' => wpAnyC C F n P ops Q solo f (lsSet ls (k :: is)) a' w) (opsAt ops is) a' → wpAnyC C F n P ops Q solo (f + is.length) (ls.setIfInBounds k true) a' w := fun a' h' =>
        atC_pure hCw hro hsel hQ is f _ a' h5 h'
      have h6 := h.2
      split
      · rename_i hw; rw [if_pos hw] at h6; exact Oper.quietIn_mono hrec h6
      · rename_i hw; rw [if_neg hw] at h6; exact hrec _ h6
    obtain ⟨v, hy, hK⟩ := yieldsQuiet_of_qOpIn h0 hq
    exact anyC_pure hro h0 (by simpa using h1) (Region.noSelect_spec hsel) hQ _ ls a w hCw (Region.free_spec h0 h3) (by simpa using h2) hy
      (fun a' w' hC' hy' => narrowC_of hC' (fun f args w'' => pure_noenterC hp w' f args w'') hy') hK

/-- An operation that comes up alone. -/
theorem atC_solo (k f : Nat) (ls : Array Bool) (a : Act) (w : World) (hB : soloB ops solo [k] ls = true)
    (h : wpListIn F n P ops (Exit.then (fun a' w' => C w' ∧ wpAnyC C F n P ops Q solo f (ls.setIfInBounds k true) a' w') Q) (opsAt ops [k]) a w) : wpAnyC C F n P ops Q solo (f + 1) ls a w := by
  simp only [soloB, Bool.and_eq_true, beq_iff_eq] at hB
  obtain ⟨⟨⟨h0, h1⟩, h2⟩, h5⟩ := hB
  obtain ⟨o, h0⟩ := Option.isSome_iff_exists.1 h0
  refine ⟨fun hr => (by rw [h2] at hr; cases hr), fun i hi => ?_⟩
  rw [h2, List.mem_singleton] at hi
  subst hi
  rw [if_pos h1]
  unfold wpOpIn
  simp only [h0]
  simp only [opsAt, h0, Option.toList_some, List.singleton_append] at h
  unfold wpListIn at h
  split
  · rename_i hw; rw [if_pos hw] at h
    exact Oper.wpIn_exits (Q' := Exit.then (fun a' w' => C w' ∧ wpAnyC C F n P ops Q solo f (ls.setIfInBounds i true) a' w') Q) (fun _ _ _ h => h) (fun _ _ h => h) (Oper.wpIn_mono (fun _ _ h => h) h)
  · rename_i hw; rw [if_neg hw] at h
    exact ⟨h.1, h.2⟩
theorem atC_end {ls : Array Bool} {a : Act} {w : World} (hr : (Region.ready .any ops ls).isEmpty = true) (h : Q .normal a w) : wpAnyC C F n P ops Q solo 0 ls a w := ⟨by simpa using hr, h⟩
/-- The whole region. -/
theorem wpIn_region_mc {id : Nat} {a : Act} {w : World} (C : World → Prop) (solo : Nat → Bool) (hro : F.round = none) (hm : P.follows .mixedOrders = true) (h : wpAnyC C F n P ops Q solo ops.size (Array.replicate ops.size false) a w.drew) : (Code.region id ops true).wpIn F n P Q a w :=
  wpIn_region_any hm (any_of_C (C := C) (solo := solo) hro _ _ _ _ h)
end
end Go.Proofs.Ytbfkpapankgndaa
