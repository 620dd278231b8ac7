/-
  A region that draws its order, inside a fence, some of whose operations only read, and whose others come up alone (a call that waits for all ahead of it): walked once, in the order of the text: the reads quietly, the others one by one, in whatever world they leave. No condition of the program's.
-/
import Derived.Lib.QuietBelowIn
import Derived.Sort.BigQuietIn
import Derived.TacticsIn
namespace Go.Proofs.Ytbfkpapankgndaa
open Go
section
variable {F : Fence} {n : Nat} {P : Program} {ops : Array Oper} {Q : Exit → Act → World → Prop} {solo : Nat → Bool}

/-- j waits for i, through others. -/
def waitsB (ops : Array Oper) : Nat → Nat → Nat → Bool
  | 0, _, _ => false
  | f + 1, j, i => match ops[j]? with
    | none => false
    | some o => o.after.any fun e => Region.binds .any e && (e.on == i || waitsB ops f e.on i)
/-- What has come up had all come up that it waits for. -/
def MxClosed (ops : Array Oper) (ls : Array Bool) : Prop := ∀ j o, ops[j]? = some o → ls.getD j false = true → ∀ e ∈ o.after, Region.binds .any e = true → ls.getD e.on false = true

theorem waits_listed {ls : Array Bool} (hc : MxClosed ops ls) : ∀ (f j i : Nat), waitsB ops f j i = true → ∀ o, ops[j]? = some o → (∀ e ∈ o.after, Region.binds .any e = true → ls.getD e.on false = true) → ls.getD i false = true
  | 0, _, _, h => by simp [waitsB] at h
  | f + 1, j, i, h => by
    intro o ho hall
    simp only [waitsB, ho, Array.any_eq_true'] at h
    obtain ⟨e, he, h⟩ := h
    simp only [Bool.and_eq_true, Bool.or_eq_true, beq_iff_eq] at h
    have hl := hall e he h.1
    rcases h.2 with h2 | h2
    · rwa [← h2]
    · cases ho2 : ops[e.on]? with
      | none => cases f <;> simp [waitsB, ho2] at h2
      | some o2 => exact waits_listed hc f e.on i h2 o2 ho2 (hc e.on o2 ho2 hl)
theorem not_ready {ls : Array Bool} (hc : MxClosed ops ls) {f j i : Nat} (h : waitsB ops f j i = true) (hi : ls.getD i true = false) : j ∉ Region.ready .any ops ls := by
  intro hj
  obtain ⟨_, o, ho, hall⟩ := mem_ready.1 hj
  have := waits_listed hc f j i h o ho hall
  rcases Nat.lt_or_ge i ls.size with h' | h'
  · simp [h'] at hi this; rw [hi] at this; cases this
  · simp [h'] at this
theorem closed_set {ls : Array Bool} (hc : MxClosed ops ls) {i : Nat} (hi : i ∈ Region.ready .any ops ls) : MxClosed ops (ls.setIfInBounds i true) := by
  obtain ⟨hun, oi, hoi, hall⟩ := mem_ready.1 hi
  have hil : i < ls.size := by
    rcases Nat.lt_or_ge i ls.size with h' | h'
    · exact h'
    · simp [h'] at hun
  have up : ∀ x, ls.getD x false = true → (ls.setIfInBounds i true).getD x false = true := fun x h => by
    by_cases hx : x = i
    · subst hx; simp [hil]
    · rw [getD_set_ne false (Ne.symm hx)]; exact h
  intro j o ho hj e he hb
  by_cases hji : j = i
  · subst hji
    rw [hoi] at ho
    obtain rfl := Option.some.inj ho
    exact up _ (hall e he hb)
  · rw [getD_set_ne false (Ne.symm hji)] at hj
    exact up _ (hc j o ho hj e he hb)

/-- Whatever order is picked; the quiet ones leave the world as it is. -/
def wpAnyM (F : Fence) (n : Nat) (P : Program) (ops : Array Oper) (Q : Exit → Act → World → Prop) (solo : Nat → Bool) : Nat → Array Bool → Act → World → Prop
  | 0, ls, a, w => Region.ready .any ops ls = [] ∧ Q .normal a w
  | f + 1, ls, a, w => (Region.ready .any ops ls = [] → Q .normal a w) ∧
    ∀ i ∈ Region.ready .any ops ls, if solo i = true then wpOpIn F n P ops Q i (wpAnyM F n P ops Q solo f (ls.setIfInBounds i true)) a w
      else qOpIn F n P ops (fun w' => w' = w) i (fun a' => wpAnyM F n P ops Q solo f (ls.setIfInBounds i true) a' w) a

theorem any_of_M (hro : F.round = none) : ∀ (f : Nat) (ls : Array Bool) (a : Act) (w : World), wpAnyM F n P ops Q solo f ls a w → wpAnyIn F n P .any ops Q f ls a w
  | 0, _, _, _, h => h
  | f + 1, ls, a, w, h => ⟨h.1, fun i hi => by
      have h2 := h.2 i hi
      split at h2
      · exact wpOpIn_mono (fun a' w' h' => any_of_M hro f _ a' w' h') h2
      · exact wpOpIn_of_qOpIn hro (C := fun w' => w' = w) rfl (fun a' w' hw' h' => by subst hw'; exact any_of_M hro f _ a' _ h') h2⟩

theorem anyM_first {i : Nat} {oi : Oper} {v : Value} {w : World} (hi : ops[i]? = some oi) (his : solo i = false) (hsel : ∀ (j : Nat) (o : Oper) cs b, ops[j]? = some o → o.op ≠ .select cs b) :
    ∀ (fuel : Nat) (ls : Array Bool) (a : Act), MxClosed ops ls →
      (∀ j oj, ops[j]? = some oj → j ≠ i → ls.getD j true = false → (solo j = false ∧ ((∀ e ∈ oj.after, Region.binds .any e = true → e.on ≠ i) → oi.apart ops oj = true)) ∨ ∃ f, waitsB ops f j i = true) →
      i ∈ Region.ready .any ops ls → YieldsQuiet F n P ops (fun w' => w' = w) oi v a →
      wpAnyM F n P ops Q solo fuel (ls.setIfInBounds i true) (a.put oi.dst v) w → wpAnyM F n P ops Q solo (fuel + 1) ls a w := by
  intro fuel
  induction fuel with
  | zero =>
    intro ls a hc hfree hr hy H
    refine ⟨fun h => (by rw [h] at hr; cases hr), fun j hj => ?_⟩
    by_cases hji : j = i
    · subst hji; rw [if_neg (by simp [his])]; exact hy.qOpIn hi H
    · have := ready_mono hj hji
      rw [H.1] at this
      cases this
  | succ fuel ih =>
    intro ls a hc hfree hr hy H
    refine ⟨fun h => (by rw [h] at hr; cases hr), fun j hj => ?_⟩
    by_cases hji : j = i
    · subst hji; rw [if_neg (by simp [his])]; exact hy.qOpIn hi H
    · have h1 := H.2 j (ready_mono hj hji)
      obtain ⟨hjun, oj, hoj, hall⟩ := mem_ready.1 hj
      have hiun := (mem_ready.1 hr).1
      rcases hfree j oj hoj hji hjun with ⟨hjs, hap⟩ | ⟨f, hw⟩
      · have hnot : ∀ e ∈ oj.after, Region.binds .any e = true → e.on ≠ i := fun e he hb heq => by
          have h1 := hall e he hb
          rw [heq] at h1
          rcases Nat.lt_or_ge i ls.size with h' | h'
          · simp [h'] at hiun h1; rw [hiun] at h1; cases h1
          · simp [Array.getElem?_eq_none h'] at h1
        rw [if_neg (by simp [hjs])] at h1 ⊢
        have h2 := qOpIn_put hoj (hap hnot) (fun cs b => hsel i oi cs b hi) (fun cs b => hsel j oj cs b hoj) hy h1
        have hfree' : ∀ k ok, ops[k]? = some ok → k ≠ i → (ls.setIfInBounds j true).getD k true = false →
            (solo k = false ∧ ((∀ e ∈ ok.after, Region.binds .any e = true → e.on ≠ i) → oi.apart ops ok = true)) ∨ ∃ f, waitsB ops f k i = true := fun k ok hk hki hun => by
          refine hfree k ok hk hki ?_
          by_cases hjk : j = k
          · subst hjk; exact hjun
          · rw [getD_set_ne true hjk] at hun; exact hun
        refine qOpIn_mono (fun a' h3 => ih (ls.setIfInBounds j true) a' (closed_set hc hj) hfree' (ready_mono hr (Ne.symm hji)) h3.1 ?_) h2
        rw [Array.setIfInBounds_comm _ _ hji]
        exact h3.2
      · exact absurd hj (not_ready hc hw hiun)

/-! ### What is the same in every world may be taken first, whoever else comes up -/
theorem qOpIn_putT {C C' : World → Prop} {j : Nat} {oi oj : Oper} {v : Value} (hj : ops[j]? = some oj) (hap : oi.apart ops oj = true)
    (hsi : ∀ cs b, oi.op ≠ .select cs b) (hsj : ∀ cs b, oj.op ≠ .select cs b) {K : Act → Prop} {a : Act}
    (hy : YieldsQuiet F n P ops C oi v a) (h : qOpIn F n P ops C' j K (a.put oi.dst v)) :
    qOpIn F n P ops C' j (fun a' => YieldsQuiet F n P ops C oi v a' ∧ K (a'.put oi.dst v)) a := by
  obtain ⟨h1, h2, h3⟩ := Oper.apart_spec hap
  have keep : ∀ (a : Act), YieldsQuiet F n P ops C oi v a → ∀ u, YieldsQuiet F n P ops C oi v (a.put oj.dst u) := fun a hy u =>
    hy.of_same (execOp_put oi hsi a oj.dst u h3) (wanted_put oi a oj.dst u h3) (fun w => about_put oi w a oj.dst u h3)
  unfold qOpIn at *
  simp only [hj] at *
  obtain ⟨ha, h⟩ := h
  refine ⟨fun w hc f hf => ha w hc f (by rw [about_put oj w a oi.dst v h1]; exact hf), ?_⟩
  rw [wanted_put oj a oi.dst v h1] at h
  split
  · rename_i hw
    simp only [hw, if_true] at h
    obtain ⟨u, hu, hn⟩ := h
    refine ⟨u, fun w hw' => ?_, keep a hy u, by rw [← Act.put_comm a v u h2]; exact hn⟩
    have := hu w hw'
    unfold Oper.quietAtIn at *
    rwa [execOp_put oj hsj a oi.dst v h1] at this
  · rename_i hw
    simp only [hw] at h
    exact ⟨keep a hy _, by rw [← Act.put_comm a v undef h2]; exact h⟩
theorem wpOpIn_putT {C : World → Prop} {j : Nat} {oi oj : Oper} {v : Value} (hro : F.round = none) (hj : ops[j]? = some oj) (hap : oi.apart ops oj = true)
    (hsi : ∀ cs b, oi.op ≠ .select cs b) (hsj : ∀ cs b, oj.op ≠ .select cs b)
    (hQ : ∀ c a w, Q (.panic c) (a.put oi.dst v) w → Q (.panic c) a w) {K : Act → World → Prop} {a : Act} {w : World}
    (hy : YieldsQuiet F n P ops C oi v a) (h : wpOpIn F n P ops Q j K (a.put oi.dst v) w) :
    wpOpIn F n P ops Q j (fun a' w' => YieldsQuiet F n P ops C oi v a' ∧ K (a'.put oi.dst v) w') a w := by
  obtain ⟨h1, h2, h3⟩ := Oper.apart_spec hap
  have keep : ∀ (a : Act), YieldsQuiet F n P ops C oi v a → ∀ u, YieldsQuiet F n P ops C oi v (a.put oj.dst u) := fun a hy u =>
    hy.of_same (execOp_put oi hsi a oj.dst u h3) (wanted_put oi a oj.dst u h3) (fun w => about_put oi w a oj.dst u h3)
  have keepD : ∀ d, YieldsQuiet F n P ops C oi v { a with defers := d :: a.defers } := fun d => hy.of_same rfl rfl (fun _ => rfl)
  unfold wpOpIn at *
  simp only [hj] at *
  rw [wanted_put oj a oi.dst v h1, about_put oj w a oi.dst v h1] at h
  split
  · rename_i hw
    simp only [hw, if_true] at h
    unfold Oper.wpIn at *
    rw [about_put oj w a oi.dst v h1] at h
    refine ⟨h.1, ?_⟩
    have h := h.2
    rw [hro, Oper.semAt_none, execOp_put oj hsj a oi.dst v h1] at h
    rw [hro, Oper.semAt_none]
    generalize (execOp a.eval oj).run P w = r at *
    cases r with
    | ok x w' =>
      cases x <;> simp only [Oper.uponIn] at h ⊢
      case value u => exact ⟨keep a hy u, by rw [← Act.put_comm a v u h2]; exact h⟩
      case skip => exact ⟨keep a hy _, by rw [← Act.put_comm a v undef h2]; exact h⟩
      case defer d =>
        refine ⟨keep _ (keepD d) _, ?_⟩
        rw [← Act.put_comm _ v undef h2, ← Act.put_defers]
        exact h
      case enter f args =>
        refine ⟨h.1, CallsIn.mono h.2 fun e w'' he => ?_⟩
        cases e with
        | returned u => exact ⟨keep a hy u, by rw [← Act.put_comm a v u h2]; exact he⟩
        | panicked c => exact hQ _ _ _ he
        | outgrown => exact he
      case row row args => exact ⟨h.1, RowsIn.mono h.2 fun u w'' he => ⟨keep a hy u, by rw [← Act.put_comm a v u h2]; exact he⟩⟩
      case round l f tmps assign body =>
        refine ⟨h.1, RoundIn.mono h.2 fun e w'' he => ?_⟩
        cases e with
        | returned u => exact ⟨keep a hy u, by rw [← Act.put_comm a v u h2]; exact he⟩
        | panicked c => exact hQ _ _ _ he
        | outgrown => exact he
    | halt x w' =>
      cases x <;> simp only [Oper.uponIn] at h ⊢
      case panic u => exact hQ _ _ _ h
  · rename_i hw
    simp only [hw] at h
    exact ⟨h.1, keep a hy _, by rw [← Act.put_comm a v undef h2]; exact h.2⟩

theorem anyM_pure {i : Nat} {oi : Oper} {v : Value} (hro : F.round = none) (hi : ops[i]? = some oi) (his : solo i = false) (hsel : ∀ (j : Nat) (o : Oper) cs b, ops[j]? = some o → o.op ≠ .select cs b)
    (hQ : ∀ c a w d v, Q (.panic c) (a.put d v) w → Q (.panic c) a w) :
    ∀ (fuel : Nat) (ls : Array Bool) (a : Act) (w : World),
      (∀ j oj, ops[j]? = some oj → j ≠ i → ls.getD j true = false → (∀ e ∈ oj.after, Region.binds .any e = true → e.on ≠ i) → oi.apart ops oj = true) →
      i ∈ Region.ready .any ops ls → YieldsQuiet F n P ops (fun _ => True) oi v a → (∀ a' w, YieldsQuiet F n P ops (fun _ => True) oi v a' → YieldsQuiet F n P ops (fun w' => w' = w) oi v a') →
      wpAnyM F n P ops Q solo fuel (ls.setIfInBounds i true) (a.put oi.dst v) w → wpAnyM F n P ops Q solo (fuel + 1) ls a w := by
  intro fuel
  induction fuel with
  | zero =>
    intro ls a w hfree hr hy hnar H
    refine ⟨fun h => (by rw [h] at hr; cases hr), fun j hj => ?_⟩
    by_cases hji : j = i
    · subst hji; rw [if_neg (by simp [his])]; exact (hnar a w hy).qOpIn hi H
    · have := ready_mono hj hji
      rw [H.1] at this
      cases this
  | succ fuel ih =>
    intro ls a w hfree hr hy hnar H
    refine ⟨fun h => (by rw [h] at hr; cases hr), fun j hj => ?_⟩
    by_cases hji : j = i
    · subst hji; rw [if_neg (by simp [his])]; exact (hnar a w hy).qOpIn hi H
    · have h1 := H.2 j (ready_mono hj hji)
      obtain ⟨hjun, oj, hoj, hall⟩ := mem_ready.1 hj
      have hiun := (mem_ready.1 hr).1
      have hnot : ∀ e ∈ oj.after, Region.binds .any e = true → e.on ≠ i := fun e he hb heq => by
        have h1 := hall e he hb
        rw [heq] at h1
        rcases Nat.lt_or_ge i ls.size with h' | h'
        · simp [h'] at hiun h1; rw [hiun] at h1; cases h1
        · simp [Array.getElem?_eq_none h'] at h1
      have hap := hfree j oj hoj hji hjun hnot
      have hfree' : ∀ k ok, ops[k]? = some ok → k ≠ i → (ls.setIfInBounds j true).getD k true = false →
          (∀ e ∈ ok.after, Region.binds .any e = true → e.on ≠ i) → oi.apart ops ok = true := fun k ok hk hki hun hno => by
        refine hfree k ok hk hki ?_ hno
        by_cases hjk : j = k
        · subst hjk; exact hjun
        · rw [getD_set_ne true hjk] at hun; exact hun
      by_cases hs : solo j = true
      · rw [if_pos hs] at h1 ⊢
        have h2 := wpOpIn_putT hro hoj hap (fun cs b => hsel i oi cs b hi) (fun cs b => hsel j oj cs b hoj) (fun c a w h => hQ c a w _ _ h) hy h1
        refine wpOpIn_mono (fun a' w' h3 => ih (ls.setIfInBounds j true) a' w' hfree' (ready_mono hr (Ne.symm hji)) h3.1 hnar ?_) h2
        rw [Array.setIfInBounds_comm _ _ hji]
        exact h3.2
      · rw [if_neg hs] at h1 ⊢
        have h2 := qOpIn_putT hoj hap (fun cs b => hsel i oi cs b hi) (fun cs b => hsel j oj cs b hoj) hy h1
        refine qOpIn_mono (fun a' h3 => ih (ls.setIfInBounds j true) a' w hfree' (ready_mono hr (Ne.symm hji)) h3.1 hnar ?_) h2
        rw [Array.setIfInBounds_comm _ _ hji]
        exact h3.2

def pureOp : Op → Bool
  | .move _ | .assign _ | .fieldAddr .. | .indexAddr .. | .nilCheck _ | .build .. | .load .. => true
  | _ => false
def NoEnter (P : Program) (s : Sem Next) : Prop := ∀ w f args w', s.run P w ≠ .ok (.enter f args) w'
theorem noEnter_bind {α : Type} {s : Sem α} {k : α → Sem Next} (h : ∀ x, NoEnter P (k x)) : NoEnter P (s >>= k) := by
  intro w f args w'
  rw [Sem.run_bind]
  cases s.run P w with
  | ok x w1 => simpa [Result.andThen] using h x w1 f args w'
  | halt x w1 => simp [Result.andThen]
theorem noEnter_value (v : Value) : NoEnter P (pure (Next.value v)) := by
  intro w f args w'
  simp [Sem.run_pure]
theorem pure_noenter {o : Oper} {ρ : Operand → Value} (h : pureOp o.op = true) : NoEnter P (execOp ρ o) := by
  unfold execOp
  cases ho : o.op <;> rw [ho] at h <;> first | (simp [pureOp] at h; done) | skip
  case move x => exact noEnter_value _
  case assign x => exact noEnter_value _
  case build => exact noEnter_bind fun _ => noEnter_value _
  case load => exact noEnter_bind fun _ => noEnter_value _
  case fieldAddr => exact noEnter_bind fun _ => noEnter_value _
  case indexAddr => exact noEnter_bind fun _ => noEnter_value _
  case nilCheck x =>
    simp only []
    generalize ρ x = y
    have hp : NoEnter P (runtimePanic .nilDeref) := by
      intro w f args w'
      simp [runtimePanic, go_sem]
    split
    · exact hp
    · exact hp
    · exact hp
    · split
      · exact hp
      · refine noEnter_bind fun _ => noEnter_bind fun _ => ?_
        split
        · refine noEnter_bind fun _ => noEnter_value _
        · exact noEnter_value _
      · exact noEnter_value _
    · exact noEnter_value _
/-- An operation that is no call, quiet in every world, is quiet in each. -/
theorem narrow_of {o : Oper} {v : Value} {a : Act} {w : World} (hc : ∀ f args w', (execOp a.eval o).run P w ≠ .ok (.enter f args) w') (h : YieldsQuiet F n P ops (fun _ => True) o v a) : YieldsQuiet F n P ops (fun w' => w' = w) o v a := by
  refine ⟨fun w' _ => h.1 w' trivial, ?_⟩
  rcases h.2 with ⟨hw, hv⟩ | h2
  · refine .inl ⟨hw, fun w' hw' => ?_⟩
    subst hw'
    have h3 := hv w' trivial
    unfold Oper.quietAtIn at *
    generalize hr : (execOp a.eval o).run P w' = r at *
    cases r with
    | ok x w'' =>
      cases x <;> simp only [Oper.quietUponIn] at h3 ⊢
      case value u => exact h3
      case skip => exact h3
      case enter f args => exact absurd rfl (hc f args w'')
    | halt x w'' => simp only [Oper.quietUponIn] at h3
  · exact .inr h2

/-- All behind i either only read, and wait for it or are apart from it, or wait for it through others. -/
def freeM (ops : Array Oper) (solo : Nat → Bool) (ls : Array Bool) (i : Nat) : Bool :=
  match ops[i]? with
  | none => false
  | some oi => (List.range ops.size).all fun j => j == i || ls.getD j true || (match ops[j]? with
      | some oj => (!solo j && (oj.after.any (fun e => Region.binds .any e && e.on == i) || oi.apart ops oj)) || waitsB ops ops.size j i
      | none => true)
def closedB (ops : Array Oper) (ls : Array Bool) : Bool :=
  (List.range ops.size).all fun j => !ls.getD j false || (match ops[j]? with
    | some o => o.after.all fun e => !Region.binds .any e || ls.getD e.on false
    | none => true)
theorem closed_of_B {ls : Array Bool} (h : closedB ops ls = true) : MxClosed ops ls := by
  intro j o ho hj e he hb
  simp only [closedB, List.all_eq_true, List.mem_range] at h
  have h1 := h j (Array.getElem?_eq_some_iff.1 ho).1
  simp only [ho, hj, Bool.not_true, Bool.false_or] at h1
  have h2 := Array.all_eq_true_iff_forall_mem.1 h1 e he
  simpa [hb] using h2
theorem free_of_M {i : Nat} {oi : Oper} {ls : Array Bool} (hi : ops[i]? = some oi) (h : freeM ops solo ls i = true) (j : Nat) (oj : Oper) (hj : ops[j]? = some oj) (hne : j ≠ i) (hun : ls.getD j true = false) :
    (solo j = false ∧ ((∀ e ∈ oj.after, Region.binds .any e = true → e.on ≠ i) → oi.apart ops oj = true)) ∨ ∃ f, waitsB ops f j i = true := by
  simp only [freeM, hi, List.all_eq_true, List.mem_range] at h
  have h1 := h j (Array.getElem?_eq_some_iff.1 hj).1
  simp only [hj, Bool.or_eq_true, beq_iff_eq, hne, false_or, hun, Bool.false_eq_true, Bool.and_eq_true] at h1
  rcases h1 with ⟨h1, h2⟩ | h1
  · refine .inl ⟨by simpa using h1, fun hno => ?_⟩
    rcases h2 with h2 | h2
    · obtain ⟨e, he, hb⟩ := Array.any_eq_true'.1 h2
      simp only [Bool.and_eq_true, beq_iff_eq] at hb
      exact absurd hb.2 (hno e he hb.1)
    · exact h2
  · exact .inr ⟨_, h1⟩

def segB (ops : Array Oper) (solo : Nat → Bool) : List Nat → Array Bool → Bool
  | [], _ => true
  | k :: is, ls => (ops[k]?).isSome && !solo k && (Region.ready .any ops ls).contains k && freeM ops solo ls k && closedB ops ls && segB ops solo is (ls.setIfInBounds k true)
def soloB (ops : Array Oper) (solo : Nat → Bool) : List Nat → Array Bool → Bool
  | [], _ => true
  | k :: is, ls => (ops[k]?).isSome && solo k && (Region.ready .any ops ls == [k]) && soloB ops solo is (ls.setIfInBounds k true)
/-- These too have come up. -/
def lsSet (ls : Array Bool) (is : List Nat) : Array Bool := is.foldl (fun l i => l.setIfInBounds i true) ls
/-- These operations. -/
def opsAt (ops : Array Oper) : List Nat → List Oper
  | [] => []
  | i :: is => (ops[i]?).toList ++ opsAt ops is

theorem at_quiet_one {f k : Nat} {o : Oper} {a : Act} {w : World} {ls : Array Bool} (ho : ops[k]? = some o) (hs : solo k = false) (hsel : Region.noSelect ops = true) (hr : (Region.ready .any ops ls).contains k = true)
    (hf : freeM ops solo ls k = true) (hc : closedB ops ls = true) (h : qOpIn F n P ops (fun w' => w' = w) k (fun a' => wpAnyM F n P ops Q solo f (ls.setIfInBounds k true) a' w) a) : wpAnyM F n P ops Q solo (f + 1) ls a w := by
  obtain ⟨v, hy, hK⟩ := yieldsQuiet_of_qOpIn ho h
  exact anyM_first ho hs (Region.noSelect_spec hsel) f _ a (closed_of_B hc) (free_of_M ho hf) (by simpa using hr) hy hK

/-- A row of operations that only read. -/
theorem at_quiet {w : World} (hsel : Region.noSelect ops = true) : ∀ (is : List Nat) (f : Nat) (ls : Array Bool) (a : Act), segB ops solo is ls = true →
    wpQuietIn F n P ops (fun w' => w' = w) (fun a' => wpAnyM F n P ops Q solo f (lsSet ls is) a' w) (opsAt ops is) a → wpAnyM F n P ops Q solo (f + is.length) ls a w
  | [], _, _, _, _, h => h
  | k :: is, f, ls, a, hB, h => by
    simp only [segB, Bool.and_eq_true] at hB
    obtain ⟨⟨⟨⟨⟨h0, h1⟩, h2⟩, h3⟩, h4⟩, h5⟩ := hB
    obtain ⟨o, h0⟩ := Option.isSome_iff_exists.1 h0
    have e : f + (k :: is).length = (f + is.length) + 1 := by simp; omega
    rw [e]
    refine at_quiet_one h0 (by simpa using h1) hsel h2 h3 h4 ?_
    unfold qOpIn
    simp only [h0]
    simp only [opsAt, h0, Option.toList_some, List.singleton_append] at h
    refine ⟨h.1, ?_⟩
    have hrec : ∀ a', wpQuietIn F n P ops (fun w' => w' = w) (fun a' => wpAnyM F n P ops Q solo f (lsSet ls (k :: is)) a' w) (opsAt ops is) a' → wpAnyM F n P ops Q solo (f + is.length) (ls.setIfInBounds k true) a' w := fun a' h' =>
      at_quiet hsel is f _ a' h5 h'
    have h6 := h.2
    split
    · rename_i hw; rw [if_pos hw] at h6; exact Oper.quietIn_mono hrec h6
    · rename_i hw; rw [if_neg hw] at h6; exact hrec _ h6

def pureB (ops : Array Oper) (solo : Nat → Bool) : List Nat → Array Bool → Bool
  | [], _ => true
  | k :: is, ls => ((ops[k]?).any fun o => pureOp o.op) && !solo k && (Region.ready .any ops ls).contains k && Region.free .any ops ls k && pureB ops solo is (ls.setIfInBounds k true)
/-- A row of operations that are the same in every world. -/
theorem at_pure {w : World} (hro : F.round = none) (hsel : Region.noSelect ops = true) (hQ : ∀ c a w d v, Q (.panic c) (a.put d v) w → Q (.panic c) a w) : ∀ (is : List Nat) (f : Nat) (ls : Array Bool) (a : Act), pureB ops solo is ls = true →
    wpQuietIn F n P ops (fun _ => True) (fun a' => wpAnyM F n P ops Q solo f (lsSet ls is) a' w) (opsAt ops is) a → wpAnyM F n P ops Q solo (f + is.length) ls a w
  | [], _, _, _, _, h => h
  | k :: is, f, ls, a, hB, h => by
    simp only [pureB, Bool.and_eq_true] at hB
    obtain ⟨⟨⟨⟨h0, h1⟩, h2⟩, h3⟩, h5⟩ := hB
    obtain ⟨o, h0, hp⟩ : ∃ o, ops[k]? = some o ∧ pureOp o.op = true := by
      cases ho : ops[k]? with
      | none => rw [ho] at h0; cases h0
      | some o => rw [ho] at h0; exact ⟨o, rfl, h0⟩
    have e : f + (k :: is).length = (f + is.length) + 1 := by simp; omega
    rw [e]
    simp only [opsAt, h0, Option.toList_some, List.singleton_append] at h
    have hq : qOpIn F n P ops (fun _ => True) k (fun a' => wpAnyM F n P ops Q solo (f + is.length) (ls.setIfInBounds k true) a' w) a := by
      unfold qOpIn
      simp only [h0]
      refine ⟨h.1, ?_⟩
      have hrec : ∀ a', wpQuietIn F n P ops (fun _ => True) (fun a' => wpAnyM F n P ops Q solo f (lsSet ls (k :: is)) a' w) (opsAt ops is) a' → wpAnyM F n P ops Q solo (f + is.length) (ls.setIfInBounds k true) a' w := fun a' h' =>
        at_pure hro hsel hQ is f _ a' h5 h'
      have h6 := h.2
      split
      · rename_i hw; rw [if_pos hw] at h6; exact Oper.quietIn_mono hrec h6
      · rename_i hw; rw [if_neg hw] at h6; exact hrec _ h6
    obtain ⟨v, hy, hK⟩ := yieldsQuiet_of_qOpIn h0 hq
    exact anyM_pure hro h0 (by simpa using h1) (Region.noSelect_spec hsel) hQ _ ls a w (Region.free_spec h0 h3) (by simpa using h2) hy
      (fun a' w' hy' => narrow_of (fun f args w'' => pure_noenter hp w' f args w'') hy') hK

theorem Oper.wpIn_exits {o : Oper} {a : Act} {w : World} {K : Act → World → Prop} {Q' : Exit → Act → World → Prop} (hp : ∀ c a w, Q' (.panic c) a w → Q (.panic c) a w) (ho : ∀ a w, Q' .outgrown a w → Q .outgrown a w)
    (hh : o.wpIn F n P a w K Q') : o.wpIn F n P a w K Q := by
  unfold Oper.wpIn at *
  refine ⟨hh.1, ?_⟩
  have hh := hh.2
  have hl : LetsOut Q' → LetsOut Q := fun ⟨a, w, h⟩ => ⟨a, w, ho a w h⟩
  generalize (o.semAt F.round a.eval).run P w = r at *
  cases r with
  | ok x w' =>
    cases x <;> simp only [Oper.uponIn] at hh ⊢ <;>
      first
        | exact hh
        | exact ⟨hh.1, CallsIn.mono hh.2 (fun e w'' he => by cases e <;> first | exact he | exact hp _ _ _ he | exact hl he)⟩
        | exact ⟨hh.1, RoundIn.mono hh.2 (fun e w'' he => by cases e <;> first | exact he | exact hp _ _ _ he | exact hl he)⟩
  | halt x w' => cases x <;> simp only [Oper.uponIn] at hh ⊢ <;> first | exact hp _ _ _ hh | exact hh

/-- A row of operations each of which comes up alone. -/
theorem at_solo : ∀ (is : List Nat) (f : Nat) (ls : Array Bool) (a : Act) (w : World), soloB ops solo is ls = true →
    wpListIn F n P ops (Exit.then (wpAnyM F n P ops Q solo f (lsSet ls is)) Q) (opsAt ops is) a w → wpAnyM F n P ops Q solo (f + is.length) ls a w
  | [], _, _, _, _, _, h => h
  | k :: is, f, ls, a, w, hB, h => by
    simp only [soloB, Bool.and_eq_true, beq_iff_eq] at hB
    obtain ⟨⟨⟨h0, h1⟩, h2⟩, h5⟩ := hB
    obtain ⟨o, h0⟩ := Option.isSome_iff_exists.1 h0
    have e : f + (k :: is).length = (f + is.length) + 1 := by simp; omega
    rw [e]
    refine ⟨fun hr => (by rw [h2] at hr; cases hr), fun i hi => ?_⟩
    rw [h2, List.mem_singleton] at hi
    subst hi
    rw [if_pos h1]
    have hrec : ∀ a' w', wpListIn F n P ops (Exit.then (wpAnyM F n P ops Q solo f (lsSet ls (i :: is))) Q) (opsAt ops is) a' w' → wpAnyM F n P ops Q solo (f + is.length) (ls.setIfInBounds i true) a' w' := fun a' w' h' =>
      at_solo is f _ a' w' h5 h'
    unfold wpOpIn
    simp only [h0]
    simp only [opsAt, h0, Option.toList_some, List.singleton_append] at h
    unfold wpListIn at h
    split
    · rename_i hw; rw [if_pos hw] at h
      exact Oper.wpIn_exits (Q' := Exit.then (wpAnyM F n P ops Q solo f (lsSet ls (i :: is))) Q) (fun _ _ _ h => h) (fun _ _ h => h) (Oper.wpIn_mono hrec h)
    · rename_i hw; rw [if_neg hw] at h
      exact ⟨h.1, hrec _ _ h.2⟩

theorem at_end {ls : Array Bool} {a : Act} {w : World} (hr : (Region.ready .any ops ls).isEmpty = true) (h : Q .normal a w) : wpAnyM F n P ops Q solo 0 ls a w := ⟨by simpa using hr, h⟩
theorem wpListIn_post {Q' : Exit → Act → World → Prop} (hn : ∀ a w, Q' .normal a w → Q .normal a w) (hp : ∀ c a w, Q' (.panic c) a w → Q (.panic c) a w) (ho : ∀ a w, Q' .outgrown a w → Q .outgrown a w) :
    ∀ (l : List Oper) (a : Act) (w : World), wpListIn F n P ops Q' l a w → wpListIn F n P ops Q l a w
  | [], a, w, h => hn a w h
  | o :: l, a, w, h => by
    unfold wpListIn at h ⊢
    split
    · rename_i hw; rw [if_pos hw] at h
      exact Oper.wpIn_exits hp ho (Oper.wpIn_mono (fun a' w' h' => wpListIn_post hn hp ho l a' w' h') h)
    · rename_i hw; rw [if_neg hw] at h
      exact ⟨h.1, wpListIn_post hn hp ho l _ w h.2⟩
/-- .. and they are the last ones. -/
theorem at_last (is : List Nat) (ls : Array Bool) (a : Act) (w : World) (hB : soloB ops solo is ls = true) (hr : (Region.ready .any ops (lsSet ls is)).isEmpty = true)
    (h : wpListIn F n P ops Q (opsAt ops is) a w) : wpAnyM F n P ops Q solo is.length ls a w := by
  have := at_solo (F := F) (n := n) (P := P) (Q := Q) is 0 ls a w hB (wpListIn_post (Q' := Q) (Q := Exit.then (wpAnyM F n P ops Q solo 0 (lsSet ls is)) Q) (fun a w h => (at_end hr h : wpAnyM F n P ops Q solo 0 (lsSet ls is) a w)) (fun _ _ _ h => h) (fun _ _ h => h) _ _ _ h)
  rwa [Nat.zero_add] at this
/-- The whole region. -/
theorem wpIn_region_mx {id : Nat} {a : Act} {w : World} (solo : Nat → Bool) (hro : F.round = none) (hm : P.follows .mixedOrders = true) (h : wpAnyM F n P ops Q solo ops.size (Array.replicate ops.size false) a w.drew) : (Code.region id ops true).wpIn F n P Q a w :=
  wpIn_region_any hm (any_of_M (solo := solo) hro _ _ _ _ h)
end
end Go.Proofs.Ytbfkpapankgndaa
