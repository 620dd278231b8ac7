/-
  A region that draws its order, by what holds of each operation once it has come up, whatever comes between: each operation is looked at once. No condition of the program's.
-/
import Derived.Orders
import Derived.Tactics
import Derived.Below
namespace Go.Proofs.YtegbdagmnibfmaaDoor
open Go
section
variable {P : Program} {ops : Array Oper} {Q : Exit → Act → World → Prop}

theorem count_step {ls : Array Bool} {i : Nat} (h : ls.getD i true = false) : (ls.setIfInBounds i true).toList.countP (· == false) + 1 = ls.toList.countP (· == false) := by
  obtain ⟨l⟩ := ls
  have hi : i < l.length := by
    rcases Nat.lt_or_ge i l.length with h' | h'
    · exact h'
    · simp [h'] at h
  have hv : l[i] = false := by simpa [hi] using h
  simp only [List.setIfInBounds_toArray]
  have := List.countP_set (p := (· == false)) (a := true) hi
  rw [this, if_pos (by rw [hv]; rfl), if_neg (by simp)]
  have hp : 0 < l.countP (· == false) := List.countP_pos_iff.2 ⟨false, by rw [← hv]; exact List.getElem_mem hi, rfl⟩
  omega
theorem ready_none {ls : Array Bool} (_hs : ls.size = ops.size) (h : ls.toList.countP (· == false) = 0) : Region.ready .any ops ls = [] := by
  rw [List.eq_nil_iff_forall_not_mem]
  intro i hi
  have h1 := (mem_ready.1 hi).1
  rw [List.countP_eq_zero] at h
  rcases Nat.lt_or_ge i ls.size with h' | h'
  · have h2 : ls[i] = false := by simpa [h'] using h1
    exact h false (by rw [← h2]; simp) rfl
  · simp [h'] at h1
theorem wpAny_inv (I : Array Bool → Act → World → Prop) (hsz : ∀ ls a w, I ls a w → ls.size = ops.size) (hstep : ∀ ls a w i, I ls a w → i ∈ Region.ready .any ops ls → wpOp P ops Q i (I (ls.setIfInBounds i true)) a w)
    (hend : ∀ ls a w, I ls a w → Region.ready .any ops ls = [] → Q .normal a w) (n : Nat) : ∀ ls a w, ls.toList.countP (· == false) = n → I ls a w → wpAny P .any ops Q n ls a w := by
  induction n with
  | zero => intro ls a w hn h; exact ⟨ready_none (hsz _ _ _ h) hn, hend _ _ _ h (ready_none (hsz _ _ _ h) hn)⟩
  | succ n ih =>
    intro ls a w hn h
    refine ⟨fun hr => hend _ _ _ h hr, fun i hi => ?_⟩
    have hc := count_step (mem_ready.1 hi).1
    exact wpOp_mono (fun a' w' h' => ih _ a' w' (by omega) h') (hstep _ _ _ _ h hi)

/-- One operation: what it waits for has come up, and holds; then it runs, what it leaves holds of it, and the world goes on as it may. -/
def OgStep (P : Program) (ops : Array Oper) (Q : Exit → Act → World → Prop) (mk : (Nat → Value) → Act) (S : World → Prop) (G : World → World → Prop) (F : Nat → Value → World → Prop) (i : Nat) (o : Oper) : Prop :=
  ∀ (u : Nat → Value) (w : World), S w → (∀ e ∈ o.after, Region.binds .any e = true → F e.on (u e.on) w) →
    if Region.wanted o (yielded ops (mk u).tmps) then o.wp P (mk u) w (fun a' w' => ∃ v, a' = (mk u).put o.dst v ∧ F i v w' ∧ S w' ∧ G w w') Q else F i undef w
def OgSteps (P : Program) (ops : Array Oper) (Q : Exit → Act → World → Prop) (mk : (Nat → Value) → Act) (S : World → Prop) (G : World → World → Prop) (F : Nat → Value → World → Prop) : Nat → List Oper → Prop
  | _, [] => True
  | k, o :: l => OgStep P ops Q mk S G F k o ∧ OgSteps P ops Q mk S G F (k + 1) l
theorem OgSteps.nil {mk : (Nat → Value) → Act} {S : World → Prop} {G : World → World → Prop} {F : Nat → Value → World → Prop} {k : Nat} : OgSteps P ops Q mk S G F k [] := trivial
theorem OgSteps.cons {mk : (Nat → Value) → Act} {S : World → Prop} {G : World → World → Prop} {F : Nat → Value → World → Prop} {k : Nat} {o : Oper} {l : List Oper} (h : OgStep P ops Q mk S G F k o) (g : OgSteps P ops Q mk S G F (k + 1) l) : OgSteps P ops Q mk S G F k (o :: l) := ⟨h, g⟩
theorem OgSteps.at {mk : (Nat → Value) → Act} {S : World → Prop} {G : World → World → Prop} {F : Nat → Value → World → Prop} : ∀ {l : List Oper} {k : Nat}, OgSteps P ops Q mk S G F k l → ∀ {i : Nat} {o : Oper}, l[i]? = some o → OgStep P ops Q mk S G F (k + i) o
  | o :: l, k, h, 0, o', ho => by
    have : o = o' := by simpa using ho
    subst this
    exact h.1
  | o :: l, k, h, i + 1, o', ho => by
    have := OgSteps.at h.2 (i := i) (o := o') (by simpa using ho)
    rwa [show k + 1 + i = k + (i + 1) by omega] at this
  | [], _, _, _, _, ho => by simp at ho
/-- Each operation's slot is its own. -/
def OgPut (mk : (Nat → Value) → Act) : Nat → List Oper → Prop
  | _, [] => True
  | k, o :: l => (∀ u v, (mk u).put o.dst v = mk (fun j => if j = k then v else u j)) ∧ OgPut mk (k + 1) l
theorem OgPut.at {mk : (Nat → Value) → Act} : ∀ {l : List Oper} {k : Nat}, OgPut mk k l → ∀ {i : Nat} {o : Oper}, l[i]? = some o → ∀ u v, (mk u).put o.dst v = mk (fun j => if j = k + i then v else u j)
  | o :: l, k, h, 0, o', ho => by
    have : o = o' := by simpa using ho
    subst this
    exact h.1
  | o :: l, k, h, i + 1, o', ho => by
    have := OgPut.at h.2 (i := i) (o := o') (by simpa using ho)
    rwa [show k + 1 + i = k + (i + 1) by omega] at this
  | [], _, _, _, _, ho => by simp at ho

theorem getD_set_self {ls : Array Bool} {i : Nat} (h : i < ls.size) : (ls.setIfInBounds i true).getD i false = true := by simp [h]

/-- The whole region. -/
theorem wp_region_og {id : Nat} {a : Act} {w : World} {l : List Oper} (mk : (Nat → Value) → Act) (S : World → Prop) (G : World → World → Prop) (F : Nat → Value → World → Prop) (hm : P.follows .mixedOrders = true)
    (u0 : Nat → Value) (ha : a = mk u0) (hS : S w.drew) (hput : OgPut mk 0 l) (hG : ∀ i v w w', F i v w → S w → G w w' → F i v w')
    (hacyc : (List.range l.length).all (fun i => (l[i]?).all fun o => o.after.all fun e => !Region.binds .any e || decide (e.on < i)) = true)
    (hstep : OgSteps P l.toArray Q mk S G F 0 l) (hend : ∀ u w, S w → (∀ i, i < l.length → F i (u i) w) → Q .normal (mk u) w) : (Code.region id l.toArray true).wp P Q a w := by
  subst ha
  refine wp_region_any hm ?_
  have hsz : l.toArray.size = (Array.replicate l.toArray.size false).toList.countP (· == false) := by simp [List.countP_replicate]
  conv => arg 5; rw [hsz]
  refine wpAny_inv (ops := l.toArray) (fun ls a w => ls.size = l.toArray.size ∧ S w ∧ ∃ u, a = mk u ∧ ∀ i, ls.getD i false = true → F i (u i) w) (fun _ _ _ h => h.1) ?_ ?_ _ _ _ _ rfl ⟨by simp, hS, u0, rfl, fun i hi => ?_⟩
  · rintro ls a w i ⟨hl, hs, u, rfl, hF⟩ hi
    obtain ⟨hun, o, ho, hall⟩ := mem_ready.1 hi
    have ho' : l[i]? = some o := by simpa using ho
    have hil : i < ls.size := by
      rcases Nat.lt_or_ge i ls.size with h' | h'
      · exact h'
      · simp [h'] at hun
    have st := hstep.at ho' u w hs (fun e he hb => hF _ (hall e he hb))
    rw [Nat.zero_add] at st
    have pt := hput.at ho'
    rw [Nat.zero_add] at pt
    unfold wpOp
    simp only [ho]
    split
    · rename_i hw
      rw [if_pos hw] at st
      refine .inl (Oper.wp_mono ?_ st)
      rintro a' w' ⟨v, rfl, hv, hs', hg⟩
      refine ⟨by simpa using hl, hs', _, pt u v, fun j hj => ?_⟩
      by_cases hji : j = i
      · subst hji; simpa using hv
      · rw [getD_set_ne false (Ne.symm hji)] at hj
        simp only [hji, if_false]
        exact hG _ _ _ _ (hF j hj) hs hg
    · rename_i hw
      rw [if_neg hw] at st
      refine ⟨by simpa using hl, hs, _, pt u undef, fun j hj => ?_⟩
      by_cases hji : j = i
      · subst hji; simpa using st
      · rw [getD_set_ne false (Ne.symm hji)] at hj
        simp only [hji, if_false]
        exact hF j hj
  · rintro ls a w ⟨hl, hs, u, rfl, hF⟩ hr
    refine hend u w hs fun i hi => hF i ?_
    have key : ∀ n i, i < n → i < l.length → ls.getD i false = true := by
      intro n
      induction n with
      | zero => intro i h; omega
      | succ n ih =>
        intro i hin hil
        cases hc : ls.getD i true with
        | true =>
          have : i < ls.size := by rw [hl]; simpa using hil
          simpa [this] using hc
        | false =>
          exfalso
          have hmem : i ∈ Region.ready .any l.toArray ls := by
            refine mem_ready.2 ⟨hc, l[i], by simp [hil], fun e he hb => ?_⟩
            have h1 := List.all_eq_true.1 hacyc i (List.mem_range.2 hil)
            rw [List.getElem?_eq_getElem hil] at h1
            simp only [Option.all_some] at h1
            have h2 := Array.all_eq_true_iff_forall_mem.1 h1 e he
            simp only [hb, Bool.not_true, Bool.false_or, decide_eq_true_eq] at h2
            exact ih e.on (by omega) (by omega)
          rw [hr] at hmem
          cases hmem
    exact key (i + 1) i (by omega) hi
  · exfalso
    rcases Nat.lt_or_ge i l.length with h' | h' <;> simp [h'] at hi

/-- A frame in which the operations' slots have these values. -/
def ogMk : Nat → List Oper → (Nat → Value) → Act → Act
  | _, [], _, a => a
  | k, o :: l, u, a => ogMk (k + 1) l u (a.put o.dst (u k))
/-- No two operations write one slot. -/
def ogApart : List Oper → Bool
  | [] => true
  | o :: l => l.all (fun o' => o.dst.isNone || o.dst != o'.dst) && ogApart l
theorem put_put (a : Act) (d : Option Tmp) (x y : Value) : (a.put d x).put d y = a.put d y := by
  cases d with
  | none => rfl
  | some d => simp [Act.put]
theorem put_other (a : Act) {d e : Option Tmp} (h : d = none ∨ d ≠ e) (x y : Value) : (a.put e x).put d y = (a.put d y).put e x := by
  cases d with
  | none => rfl
  | some d =>
    cases e with
    | none => rfl
    | some e =>
      have hne : d ≠ e := fun q => h.elim (fun q => by cases q) (fun q' => q' (by rw [q]))
      simp [Act.put, Array.setIfInBounds_comm _ _ hne]
theorem ogMk_other {d : Option Tmp} {v : Value} {u : Nat → Value} : ∀ (l : List Oper) (k : Nat) (a : Act), l.all (fun o' => d.isNone || d != o'.dst) = true → (ogMk k l u a).put d v = ogMk k l u (a.put d v)
  | [], _, _, _ => rfl
  | o :: l, k, a, h => by
    simp only [List.all_cons, Bool.and_eq_true] at h
    rw [ogMk, ogMk, ogMk_other l (k + 1) _ h.2, put_other a]
    have h1 := h.1
    simp only [Bool.or_eq_true, Option.isNone_iff_eq_none, bne_iff_ne] at h1
    exact h1
theorem ogMk_same {u u' : Nat → Value} : ∀ (l : List Oper) (k : Nat) (a : Act), (∀ j, k ≤ j → u j = u' j) → ogMk k l u a = ogMk k l u' a
  | [], _, _, _ => rfl
  | o :: l, k, a, h => by rw [ogMk, ogMk, h k (Nat.le_refl _)]; exact ogMk_same l (k + 1) _ fun j hj => h j (by omega)
theorem ogMk_put {u : Nat → Value} {v : Value} : ∀ (l : List Oper) (k i : Nat) (o : Oper) (a : Act), ogApart l = true → l[i]? = some o → (ogMk k l u a).put o.dst v = ogMk k l (fun j => if j = k + i then v else u j) a
  | [], _, _, _, _, _, ho => by simp at ho
  | o' :: l, k, 0, o, a, h, ho => by
    have : o' = o := by simpa using ho
    subst this
    simp only [ogApart, Bool.and_eq_true] at h
    rw [ogMk, ogMk_other l (k + 1) _ h.1, put_put, ogMk, ogMk_same l (k + 1) _ (u := u) (u' := fun j => if j = k + 0 then v else u j) fun j hj => by rw [if_neg (by omega)]]
    simp
  | o' :: l, k, i + 1, o, a, h, ho => by
    simp only [ogApart, Bool.and_eq_true] at h
    have := ogMk_put (u := u) (v := v) l (k + 1) i o (a.put o'.dst (u k)) h.2 (by simpa using ho)
    rw [ogMk, this, ogMk]
    simp only [show k + 1 + i = k + (i + 1) by omega, show (k = k + (i + 1)) = False by simp, if_false]
theorem put_own (a : Act) (d : Option Tmp) : ∃ v, a.put d v = a := by
  cases d with
  | none => exact ⟨undef, rfl⟩
  | some d =>
    refine ⟨a.tmps.getD d undef, ?_⟩
    obtain ⟨t, ds⟩ := a
    simp only [Act.put, Act.mk.injEq, and_true]
    apply Array.ext_getElem?
    intro j
    rw [Array.getElem?_setIfInBounds]
    split
    · rename_i e
      subst e
      rcases Nat.lt_or_ge d t.size with h | h
      · simp [h]
      · simp [Nat.not_lt.2 h]
    · rfl
theorem ogMk_own : ∀ (l : List Oper) (k : Nat) (a : Act), ∃ u, ogMk k l u a = a
  | [], _, _ => ⟨fun _ => undef, rfl⟩
  | o :: l, k, a => by
    obtain ⟨v, hv⟩ := put_own a o.dst
    obtain ⟨u, hu⟩ := ogMk_own l (k + 1) a
    refine ⟨fun j => if j = k then v else u j, ?_⟩
    rw [ogMk, if_pos rfl, hv, ogMk_same l (k + 1) a (u' := u) fun j hj => by rw [if_neg (by omega)]]
    exact hu
theorem ogPut_mk (a : Act) (L : List Oper) (hL : ogApart L = true) : ∀ (l : List Oper) (k : Nat), (∀ i o, l[i]? = some o → L[k + i]? = some o) → OgPut (fun u => ogMk 0 L u a) k l
  | [], _, _ => trivial
  | o :: l, k, h => by
    refine ⟨fun u v => ?_, ogPut_mk a L hL l (k + 1) fun i o' ho => ?_⟩
    · have := ogMk_put (u := u) (v := v) L 0 k o a hL (by simpa using h 0 o rfl)
      rw [Nat.zero_add] at this
      exact this
    · have := h (i + 1) o' (by simpa using ho)
      rwa [show k + (i + 1) = k + 1 + i by omega] at this
/-- The whole region, over its own frame. -/
theorem wp_region_orders {id : Nat} {a : Act} {w : World} {l : List Oper} (S : World → Prop) (G : World → World → Prop) (F : Nat → Value → World → Prop) (hm : P.follows .mixedOrders = true) (hap : ogApart l = true)
    (hacyc : (List.range l.length).all (fun i => (l[i]?).all fun o => o.after.all fun e => !Region.binds .any e || decide (e.on < i)) = true) (hS : S w.drew) (hG : ∀ i v w w', F i v w → S w → G w w' → F i v w')
    (hstep : OgSteps P l.toArray Q (fun u => ogMk 0 l u a) S G F 0 l) (hend : ∀ u w, S w → (∀ i, i < l.length → F i (u i) w) → Q .normal (ogMk 0 l u a) w) : (Code.region id l.toArray true).wp P Q a w := by
  obtain ⟨u0, hu0⟩ := ogMk_own l 0 a
  exact wp_region_og (fun u => ogMk 0 l u a) S G F hm u0 hu0.symm hS (ogPut_mk a l hap l 0 fun i o ho => by rwa [Nat.zero_add]) hG hacyc hstep hend

/-- An operation that gives a value. -/
theorem og_value {mk : (Nat → Value) → Act} {S : World → Prop} {G : World → World → Prop} {F : Nat → Value → World → Prop} {i : Nat} {o : Oper} {u : Nat → Value} {w w' : World} {v : Value} (hg : o.guard = none)
    (hr : (execOp (mk u).eval o).run P w = .ok (.value v) w') (hF : F i v w') (hS : S w') (hG : G w w') :
    if Region.wanted o (yielded ops (mk u).tmps) then o.wp P (mk u) w (fun a' w' => ∃ v, a' = (mk u).put o.dst v ∧ F i v w' ∧ S w' ∧ G w w') Q else F i undef w := by
  rw [if_pos (by simp [Region.wanted, hg])]
  unfold Oper.wp
  rw [hr]
  exact ⟨v, rfl, hF, hS, hG⟩
/-- An operation that calls. -/
theorem og_call {mk : (Nat → Value) → Act} {S : World → Prop} {G : World → World → Prop} {F : Nat → Value → World → Prop} {i : Nat} {o : Oper} {u : Nat → Value} {w : World} {f : FuncId} {args : Array Value} {R : Value → World → Prop} (hg : o.guard = none)
    (hr : (execOp (mk u).eval o).run P w = .ok (.enter f args) w) (hc : Calls P f args w fun e w' => ∃ v, e = .returned v ∧ R v w') (hF : ∀ v w', R v w' → F i v w' ∧ S w' ∧ G w w') :
    if Region.wanted o (yielded ops (mk u).tmps) then o.wp P (mk u) w (fun a' w' => ∃ v, a' = (mk u).put o.dst v ∧ F i v w' ∧ S w' ∧ G w w') Q else F i undef w := by
  rw [if_pos (by simp [Region.wanted, hg])]
  unfold Oper.wp
  rw [hr]
  refine hc.mono ?_
  rintro e w' ⟨v, rfl, hR⟩
  exact ⟨v, rfl, hF v w' hR⟩
/-- What goes on holding where memory is made. -/
def Stable (φ : Value → World → Prop) : Prop := ∀ v w w', φ v w → RowKit.Below w.heap.size w w' → φ v w'
/-- It is this value. -/
def fx (c : Value) : Value → World → Prop := fun v _ => v = c
theorem stable_fx (c : Value) : Stable (fx c) := fun _ _ _ h _ => h
/-- What is known of operation i. -/
def fAt (Φ : List (Value → World → Prop)) (i : Nat) : Value → World → Prop := Φ.getD i (fun _ _ => True)
theorem stable_at {Φ : List (Value → World → Prop)} (h : ∀ φ ∈ Φ, Stable φ) (i : Nat) : Stable (fAt Φ i) := by
  unfold fAt
  rw [List.getD_eq_getElem?_getD]
  cases hi : Φ[i]? with
  | none => intro _ _ _ _ _; trivial
  | some φ => exact h φ (List.mem_of_getElem? hi)
/-- One operation that gives a value, and may make memory. -/
theorem OgStep.made {mk : (Nat → Value) → Act} {Φ : List (Value → World → Prop)} {i : Nat} {o : Oper} {w0 : World} (hg : o.guard = none)
    (h : ∀ u w, RowKit.Below w0.heap.size w0 w → (∀ e ∈ o.after, Region.binds .any e = true → fAt Φ e.on (u e.on) w) → ∃ v w', (execOp (mk u).eval o).run P w = .ok (.value v) w' ∧ RowKit.Below w.heap.size w w' ∧ fAt Φ i v w') :
    OgStep P ops Q mk (fun w' => RowKit.Below w0.heap.size w0 w') (fun w1 w2 => RowKit.Below w1.heap.size w1 w2) (fAt Φ) i o := by
  intro u w hS hp
  obtain ⟨v, w', hr, hB, hF⟩ := h u w hS hp
  exact og_value hg hr hF (hS.trans (hB.mono hS.size)) hB
/-- One operation that gives a value, and leaves the world. -/
theorem OgStep.pure {mk : (Nat → Value) → Act} {Φ : List (Value → World → Prop)} {i : Nat} {o : Oper} {w0 : World} (hg : o.guard = none)
    (h : ∀ u w, RowKit.Below w0.heap.size w0 w → (∀ e ∈ o.after, Region.binds .any e = true → fAt Φ e.on (u e.on) w) → ∃ v, (execOp (mk u).eval o).run P w = .ok (.value v) w ∧ fAt Φ i v w) :
    OgStep P ops Q mk (fun w' => RowKit.Below w0.heap.size w0 w') (fun w1 w2 => RowKit.Below w1.heap.size w1 w2) (fAt Φ) i o :=
  OgStep.made hg fun u w hS hp => by
    obtain ⟨v, hr, hF⟩ := h u w hS hp
    exact ⟨v, w, hr, RowKit.Below.refl _ _, hF⟩
/-- One operation that calls. -/
theorem OgStep.calls {mk : (Nat → Value) → Act} {Φ : List (Value → World → Prop)} {i : Nat} {o : Oper} {w0 : World} (hg : o.guard = none)
    (h : ∀ u w, RowKit.Below w0.heap.size w0 w → (∀ e ∈ o.after, Region.binds .any e = true → fAt Φ e.on (u e.on) w) →
      ∃ f args, (execOp (mk u).eval o).run P w = .ok (.enter f args) w ∧ Calls P f args w fun e w' => ∃ v, e = .returned v ∧ RowKit.Below w.heap.size w w' ∧ fAt Φ i v w') :
    OgStep P ops Q mk (fun w' => RowKit.Below w0.heap.size w0 w') (fun w1 w2 => RowKit.Below w1.heap.size w1 w2) (fAt Φ) i o := by
  intro u w hS hp
  obtain ⟨f, args, hr, hc⟩ := h u w hS hp
  exact og_call (R := fun v w' => RowKit.Below w.heap.size w w' ∧ fAt Φ i v w') hg hr hc fun v w' h => ⟨h.2, hS.trans (h.1.mono hS.size), h.1⟩
/-- A region that makes memory, and turns nothing that was there, in whatever order. -/
theorem wp_region_below {id : Nat} {a : Act} {w : World} {l : List Oper} (Φ : List (Value → World → Prop)) (hm : P.follows .mixedOrders = true) (hap : ogApart l = true)
    (hacyc : (List.range l.length).all (fun i => (l[i]?).all fun o => o.after.all fun e => !Region.binds .any e || decide (e.on < i)) = true) (hΦ : ∀ φ ∈ Φ, Stable φ)
    (hstep : OgSteps P l.toArray Q (fun u => ogMk 0 l u a) (fun w' => RowKit.Below w.heap.size w w') (fun w1 w2 => RowKit.Below w1.heap.size w1 w2) (fAt Φ) 0 l)
    (hend : ∀ u w', RowKit.Below w.heap.size w w' → (∀ i, i < l.length → fAt Φ i (u i) w') → Q .normal (ogMk 0 l u a) w') : (Code.region id l.toArray true).wp P Q a w :=
  wp_region_orders (fun w' => RowKit.Below w.heap.size w w') (fun w1 w2 => RowKit.Below w1.heap.size w1 w2) (fAt Φ) hm hap hacyc (RowKit.Below.refl _ _).drew (fun i v w1 w2 h _ hg => stable_at hΦ i v w1 w2 h hg) hstep hend
end
end Go.Proofs.YtegbdagmnibfmaaDoor
