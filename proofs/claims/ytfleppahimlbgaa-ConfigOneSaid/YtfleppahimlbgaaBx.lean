/-
  A region that draws its order and makes two variables, each stored into once (a, b := f(x), g(y), both boxed): each operation is looked at once. No condition of the program's.
-/
import Derived.Test.YtfleppahimlbgaaOg
namespace Go.Proofs.Ytfleppahimlbgaa
open Go
section
variable {P : Program} {Q : Exit → Act → World → Prop}

/-- The whole region, by what holds of the operations that have come up. -/
theorem wp_region_inv {id : Nat} {a : Act} {w : World} {l : List Oper} (I : (Nat → Bool) → (Nat → Value) → World → Prop) (hm : P.follows .mixedOrders = true) (hap : ogApart l = true)
    (hacyc : (List.range l.length).all (fun i => (l[i]?).all fun o => o.after.all fun e => !Region.binds .any e || decide (e.on < i)) = true) (h0 : ∀ u, I (fun _ => false) u w.drew)
    (hstep : ∀ i o, l[i]? = some o → ∀ D u w, I D u w → D i = false → (∀ e ∈ o.after, Region.binds .any e = true → D e.on = true) →
      Region.wanted o (yielded l.toArray (ogMk 0 l u a).tmps) = true ∧ o.wp P (ogMk 0 l u a) w (fun a' w' => ∃ v, a' = (ogMk 0 l u a).put o.dst v ∧ I (fun j => if j = i then true else D j) (fun j => if j = i then v else u j) w') Q)
    (hend : ∀ D u w, I D u w → (∀ i, i < l.length → D i = true) → Q .normal (ogMk 0 l u a) w) : (Code.region id l.toArray true).wp P Q a w := by
  obtain ⟨u0, hu0⟩ := ogMk_own l 0 a
  have hput := ogPut_mk a l hap l 0 fun i o ho => by rwa [Nat.zero_add]
  suffices H : ∀ a', a' = ogMk 0 l u0 a → (Code.region id l.toArray true).wp P Q a' w from H a hu0.symm
  rintro _ rfl
  refine wp_region_any hm ?_
  have hsz : l.toArray.size = (Array.replicate l.toArray.size false).toList.countP (· == false) := by simp [List.countP_replicate]
  conv => arg 5; rw [hsz]
  refine wpAny_inv (ops := l.toArray) (fun ls a' w => ls.size = l.toArray.size ∧ ∃ u D, a' = ogMk 0 l u a ∧ I D u w ∧ ∀ j, ls.getD j false = D j) (fun _ _ _ h => h.1) ?_ ?_ _ _ _ _ rfl ⟨by simp, u0, fun _ => false, rfl, h0 u0, fun j => by
    show (Array.replicate l.toArray.size false).getD j false = false
    rw [Array.getD_eq_getD_getElem?, Array.getElem?_replicate]
    split <;> rfl⟩
  · rintro ls a' w i ⟨hl, u, D, rfl, hI, hD⟩ hi
    obtain ⟨hun, o, ho, hall⟩ := mem_ready.1 hi
    have ho' : l[i]? = some o := by simpa using ho
    have hil : i < ls.size := by
      rcases Nat.lt_or_ge i ls.size with h' | h'
      · exact h'
      · simp [h'] at hun
    have hDi : D i = false := by rw [← hD]; simpa [hil] using hun
    obtain ⟨hw, st⟩ := hstep i o ho' D u w hI hDi fun e he hb => by rw [← hD]; exact hall e he hb
    have pt := hput.at ho'
    rw [Nat.zero_add] at pt
    unfold wpOp
    simp only [ho]
    rw [if_pos hw]
    refine .inl (Oper.wp_mono ?_ st)
    rintro a' w' ⟨v, rfl, hI'⟩
    refine ⟨by simpa using hl, _, _, pt u v, hI', fun j => ?_⟩
    by_cases hji : j = i
    · subst hji
      rw [if_pos rfl]
      exact getD_set_self hil
    · rw [if_neg hji, getD_set_ne false (Ne.symm hji)]
      exact hD j
  · rintro ls a' w ⟨hl, u, D, rfl, hI, hD⟩ hr
    refine hend D u w hI fun i hi => ?_
    have hl' : ls.size = l.length := by simpa using hl
    have key : ∀ n i, i < n → i < l.length → ls.getD i false = true := by
      intro n
      induction n with
      | zero => intro i h; omega
      | succ n ih =>
        intro i hin hil
        by_cases hc : ls.getD i false = true
        · exact hc
        · exfalso
          have hc' : ls.getD i true = false := by
            have : i < ls.size := by omega
            simp [this] at hc ⊢
            exact hc
          have hmem : i ∈ Region.ready .any l.toArray ls := by
            refine mem_ready.2 ⟨hc', l[i], by simp [hil], fun e he hb => ?_⟩
            have h1 := List.all_eq_true.1 hacyc i (List.mem_range.2 hil)
            rw [List.getElem?_eq_getElem hil] at h1
            simp only [Option.all_some] at h1
            have h2 := Array.all_eq_true_iff_forall_mem.1 h1 e he
            simp only [hb, Bool.not_true, Bool.false_or, decide_eq_true_eq] at h2
            exact ih e.on (by omega) (by omega)
          rw [hr] at hmem
          cases hmem
    rw [← hD]
    exact key (i + 1) i (by omega) hi

/-- What holds of a block by its cells alone. -/
def OfCells (K : World → Nat → Prop) : Prop := (∀ w g, K w g → g < w.heap.size) ∧ ∀ w w' g, (∀ o, w'.cell? ⟨g, o, none⟩ = w.cell? ⟨g, o, none⟩ ∧ w'.frozen? ⟨g, o, none⟩ = w.frozen? ⟨g, o, none⟩) → K w g → K w' g
theorem OfCells.below {K : World → Nat → Prop} (h : OfCells K) {w w' : World} {g B : Nat} (hk : K w g) (hb : RowKit.Below B w w') (hg : g < B) : K w' g :=
  h.2 w w' g (fun o => ⟨hb.cell (p := ⟨g, o, none⟩) hg, hb.frozen (p := ⟨g, o, none⟩) hg⟩) hk
/-- Which of the four an operation is. -/
structure Four where
  (p s p' s' : Nat)
def Four.is (f : Four) (i : Nat) : Bool := i == f.p || (i == f.s || (i == f.p' || i == f.s'))
structure Two (w0 : World) (Φ : List Value) (f : Four) (Z V Z' V' : World → Nat → Prop) (D : Nat → Bool) (u : Nat → Value) (w : World) : Prop where
  bel : RowKit.Below w0.heap.size w0 w
  val : ∀ i, D i = true → f.is i = false → u i = Φ.getD i undef
  b1 : D f.p = true → ∃ g, u f.p = .pointer (some ⟨g, 0, none⟩) ∧ w0.heap.size ≤ g ∧ g < w.heap.size ∧ (D f.s = false → Z w g) ∧ (D f.s = true → V w g)
  b2 : D f.p' = true → ∃ g, u f.p' = .pointer (some ⟨g, 0, none⟩) ∧ w0.heap.size ≤ g ∧ g < w.heap.size ∧ (D f.s' = false → Z' w g) ∧ (D f.s' = true → V' w g)
  ap : D f.p = true → D f.p' = true → u f.p ≠ u f.p'
  c1 : D f.s = true → D f.p = true
  c2 : D f.s' = true → D f.p' = true
/-- One operation that gives what it gives, whatever came ahead of it, and may make memory. -/
def BxStep (P : Program) (Q : Exit → Act → World → Prop) (l : List Oper) (a : Act) (w0 : World) (Φ : List Value) (f : Four) (i : Nat) (o : Oper) : Prop :=
  f.is i = false → o.guard = none ∧ ∀ u w, RowKit.Below w0.heap.size w0 w → (∀ e ∈ o.after, Region.binds .any e = true → f.is e.on = false → u e.on = Φ.getD e.on undef) →
    o.wp P (ogMk 0 l u a) w (fun a' w' => a' = (ogMk 0 l u a).put o.dst (Φ.getD i undef) ∧ RowKit.Below w.heap.size w w') Q
def BxSteps (P : Program) (Q : Exit → Act → World → Prop) (l : List Oper) (a : Act) (w0 : World) (Φ : List Value) (f : Four) : Nat → List Oper → Prop
  | _, [] => True
  | k, o :: r => BxStep P Q l a w0 Φ f k o ∧ BxSteps P Q l a w0 Φ f (k + 1) r
theorem BxSteps.nil {l : List Oper} {a : Act} {w0 : World} {Φ : List Value} {f : Four} {k : Nat} : BxSteps P Q l a w0 Φ f k [] := trivial
theorem BxSteps.cons {l : List Oper} {a : Act} {w0 : World} {Φ : List Value} {f : Four} {k : Nat} {o : Oper} {r : List Oper} (h : BxStep P Q l a w0 Φ f k o) (g : BxSteps P Q l a w0 Φ f (k + 1) r) : BxSteps P Q l a w0 Φ f k (o :: r) := ⟨h, g⟩
theorem BxSteps.at {l : List Oper} {a : Act} {w0 : World} {Φ : List Value} {f : Four} : ∀ {r : List Oper} {k : Nat}, BxSteps P Q l a w0 Φ f k r → ∀ {i : Nat} {o : Oper}, r[i]? = some o → BxStep P Q l a w0 Φ f (k + i) o
  | o :: r, k, h, 0, o', ho => by
    have : o = o' := by simpa using ho
    subst this
    exact h.1
  | o :: r, k, h, i + 1, o', ho => by
    have := BxSteps.at h.2 (i := i) (o := o') (by simpa using ho)
    rwa [show k + 1 + i = k + (i + 1) by omega] at this
  | [], _, _, _, _, ho => by simp at ho
/-- It is one of the four. -/
theorem BxStep.four {l : List Oper} {a : Act} {w0 : World} {Φ : List Value} {f : Four} {k : Nat} {o : Oper} (h : f.is k = true) : BxStep P Q l a w0 Φ f k o := fun h' => by rw [h] at h'; cases h'
/-- It gives a value. -/
theorem BxStep.pure {l : List Oper} {a : Act} {w0 : World} {Φ : List Value} {f : Four} {i : Nat} {o : Oper} (hg : o.guard = none)
    (h : ∀ u w, RowKit.Below w0.heap.size w0 w → (∀ e ∈ o.after, Region.binds .any e = true → f.is e.on = false → u e.on = Φ.getD e.on undef) → (execOp (ogMk 0 l u a).eval o).run P w = .ok (.value (Φ.getD i undef)) w) : BxStep P Q l a w0 Φ f i o :=
  fun _ => ⟨hg, fun u w hb hp => by
    unfold Oper.wp
    rw [h u w hb hp]
    exact ⟨rfl, RowKit.Below.refl _ _⟩⟩
/-- It calls. -/
theorem BxStep.calls {l : List Oper} {a : Act} {w0 : World} {Φ : List Value} {f : Four} {i : Nat} {o : Oper} (hg : o.guard = none)
    (h : ∀ u w, RowKit.Below w0.heap.size w0 w → (∀ e ∈ o.after, Region.binds .any e = true → f.is e.on = false → u e.on = Φ.getD e.on undef) →
      ∃ fn args, (execOp (ogMk 0 l u a).eval o).run P w = .ok (.enter fn args) w ∧ Calls P fn args w fun e w' => e = .returned (Φ.getD i undef) ∧ RowKit.Below w.heap.size w w') : BxStep P Q l a w0 Φ f i o :=
  fun _ => ⟨hg, fun u w hb hp => by
    obtain ⟨fn, args, hr, hc⟩ := h u w hb hp
    unfold Oper.wp
    rw [hr]
    refine hc.mono ?_
    rintro e w' ⟨rfl, hB⟩
    exact ⟨rfl, hB⟩⟩
/-- A variable is made. -/
def BxNew (P : Program) (Q : Exit → Act → World → Prop) (l : List Oper) (a : Act) (Z : World → Nat → Prop) (o : Oper) : Prop :=
  o.guard = none ∧ ∀ u w, o.wp P (ogMk 0 l u a) w (fun a' w' => a' = (ogMk 0 l u a).put o.dst (.pointer (some ⟨w.heap.size, 0, none⟩)) ∧ RowKit.Below w.heap.size w w' ∧ w.heap.size < w'.heap.size ∧ Z w' w.heap.size) Q
/-- A variable is stored into. -/
def BxPut (P : Program) (Q : Exit → Act → World → Prop) (l : List Oper) (a : Act) (Φ : List Value) (f : Four) (p : Nat) (Z V : World → Nat → Prop) (o : Oper) : Prop :=
  o.guard = none ∧ (o.after.any fun e => Region.binds .any e && decide (e.on = p)) = true ∧ ∀ u w g, u p = .pointer (some ⟨g, 0, none⟩) → Z w g → (∀ e ∈ o.after, Region.binds .any e = true → f.is e.on = false → u e.on = Φ.getD e.on undef) →
    o.wp P (ogMk 0 l u a) w (fun a' w' => (∃ v, a' = (ogMk 0 l u a).put o.dst v) ∧ (∀ B, B ≤ g → RowKit.Below B w w') ∧ (∀ h o, h ≠ g → w'.cell? ⟨h, o, none⟩ = w.cell? ⟨h, o, none⟩ ∧ w'.frozen? ⟨h, o, none⟩ = w.frozen? ⟨h, o, none⟩) ∧ V w' g) Q

theorem Two.plain {w0 w w' : World} {Φ : List Value} {f : Four} {Z V Z' V' : World → Nat → Prop} {D : Nat → Bool} {u : Nat → Value} (hZ : OfCells Z) (hV : OfCells V) (hZ' : OfCells Z') (hV' : OfCells V') (h : Two w0 Φ f Z V Z' V' D u w) (hb : RowKit.Below w.heap.size w w') {i : Nat} (hi : f.is i = false) :
    Two w0 Φ f Z V Z' V' (fun j => if j = i then true else D j) (fun j => if j = i then Φ.getD i undef else u j) w' := by
  simp only [Four.is, Bool.or_eq_false_iff, beq_eq_false_iff_ne] at hi
  obtain ⟨i1, i2, i3, i4⟩ := hi
  have hs := hb.size
  refine ⟨h.bel.trans (hb.mono h.bel.size), fun j hj hf => ?_, fun hp => ?_, fun hp => ?_, ?_, ?_, ?_⟩
  · by_cases hji : j = i
    · subst hji; rw [if_pos rfl]
    · rw [if_neg hji] at hj ⊢; exact h.val j hj hf
  · rw [if_neg (Ne.symm i1)] at hp
    rw [if_neg (Ne.symm i1), if_neg (Ne.symm i2)]
    obtain ⟨g, e1, e2, e3, e4, e5⟩ := h.b1 hp
    exact ⟨g, e1, e2, by omega, fun k => hZ.below (e4 k) hb e3, fun k => hV.below (e5 k) hb e3⟩
  · rw [if_neg (Ne.symm i3)] at hp
    rw [if_neg (Ne.symm i3), if_neg (Ne.symm i4)]
    obtain ⟨g, e1, e2, e3, e4, e5⟩ := h.b2 hp
    exact ⟨g, e1, e2, by omega, fun k => hZ'.below (e4 k) hb e3, fun k => hV'.below (e5 k) hb e3⟩
  · rw [if_neg (Ne.symm i1), if_neg (Ne.symm i3), if_neg (Ne.symm i1), if_neg (Ne.symm i3)]; exact h.ap
  · rw [if_neg (Ne.symm i1), if_neg (Ne.symm i2)]; exact h.c1
  · rw [if_neg (Ne.symm i3), if_neg (Ne.symm i4)]; exact h.c2

/-- The four are four. -/
def Four.ok (f : Four) : Bool := f.p != f.s && (f.p != f.p' && (f.p != f.s' && (f.s != f.p' && (f.s != f.s' && f.p' != f.s'))))
def Four.swap (f : Four) : Four := ⟨f.p', f.s', f.p, f.s⟩
theorem Four.is_swap (f : Four) (i : Nat) : f.swap.is i = f.is i := by
  simp only [Four.is, Four.swap]
  rw [Bool.eq_iff_iff]
  simp
  omega
theorem Two.swap {w0 w : World} {Φ : List Value} {f : Four} {Z V Z' V' : World → Nat → Prop} {D : Nat → Bool} {u : Nat → Value} (h : Two w0 Φ f Z V Z' V' D u w) : Two w0 Φ f.swap Z' V' Z V D u w :=
  ⟨h.bel, fun i hi hf => h.val i hi (by rw [← Four.is_swap]; exact hf), h.b2, h.b1, fun a b => (h.ap b a).symm, h.c2, h.c1⟩
theorem Four.ne {f : Four} (h : f.ok = true) : f.p ≠ f.s ∧ f.p ≠ f.p' ∧ f.p ≠ f.s' ∧ f.s ≠ f.p' ∧ f.s ≠ f.s' ∧ f.p' ≠ f.s' := by
  simpa [Four.ok] using h
theorem Two.new {w0 w w' : World} {Φ : List Value} {f : Four} {Z V Z' V' : World → Nat → Prop} {D : Nat → Bool} {u : Nat → Value} (hf : f.ok = true) (hZ' : OfCells Z') (hV' : OfCells V') (h : Two w0 Φ f Z V Z' V' D u w) (hD : D f.p = false) (hb : RowKit.Below w.heap.size w w') (hlt : w.heap.size < w'.heap.size) (hz : Z w' w.heap.size) :
    Two w0 Φ f Z V Z' V' (fun j => if j = f.p then true else D j) (fun j => if j = f.p then .pointer (some ⟨w.heap.size, 0, none⟩) else u j) w' := by
  obtain ⟨n1, n2, n3, n4, n5, n6⟩ := Four.ne hf
  have hs := h.bel.size
  have hDs : D f.s = false := by
    cases e : D f.s
    · rfl
    · rw [h.c1 e] at hD; cases hD
  refine ⟨h.bel.trans (hb.mono hs), fun j hj hi => ?_, fun _ => ?_, fun hp => ?_, fun _ hp => ?_, fun _ => ?_, fun hp => ?_⟩
  · have : j ≠ f.p := by simp [Four.is] at hi; exact hi.1
    rw [if_neg this] at hj ⊢
    exact h.val j hj hi
  · rw [if_pos rfl, if_neg (Ne.symm n1), hDs]
    exact ⟨_, rfl, hs, hlt, fun _ => hz, fun k => by cases k⟩
  · rw [if_neg (Ne.symm n2)] at hp
    rw [if_neg (Ne.symm n2), if_neg (Ne.symm n3)]
    obtain ⟨g, e1, e2, e3, e4, e5⟩ := h.b2 hp
    exact ⟨g, e1, e2, by omega, fun k => hZ'.below (e4 k) hb e3, fun k => hV'.below (e5 k) hb e3⟩
  · rw [if_neg (Ne.symm n2)] at hp
    rw [if_pos rfl, if_neg (Ne.symm n2)]
    obtain ⟨g, e1, e2, e3, e4, e5⟩ := h.b2 hp
    rw [e1]
    intro k
    injection k with k
    injection k with k
    injection k with k
    omega
  · rw [if_pos rfl]
  · rw [if_neg (Ne.symm n3)] at hp
    rw [if_neg (Ne.symm n2)]
    exact h.c2 hp
theorem Two.put {w0 w w' : World} {Φ : List Value} {f : Four} {Z V Z' V' : World → Nat → Prop} {D : Nat → Bool} {u : Nat → Value} (hf : f.ok = true) (hZ' : OfCells Z') (hV' : OfCells V') (h : Two w0 Φ f Z V Z' V' D u w) (hp : D f.p = true) {g : Nat} (hg : u f.p = .pointer (some ⟨g, 0, none⟩)) (hbase : w0.heap.size ≤ g)
    (hglt : g < w.heap.size) (hb : ∀ B, B ≤ g → RowKit.Below B w w') (ho : ∀ h o, h ≠ g → w'.cell? ⟨h, o, none⟩ = w.cell? ⟨h, o, none⟩ ∧ w'.frozen? ⟨h, o, none⟩ = w.frozen? ⟨h, o, none⟩) (hv : V w' g) (v : Value) :
    Two w0 Φ f Z V Z' V' (fun j => if j = f.s then true else D j) (fun j => if j = f.s then v else u j) w' := by
  obtain ⟨n1, n2, n3, n4, n5, n6⟩ := Four.ne hf
  have hs := (hb 0 (by omega)).size
  refine ⟨h.bel.trans (hb _ hbase), fun j hj hi => ?_, fun _ => ?_, fun hq => ?_, fun _ hq => ?_, fun _ => ?_, fun hq => ?_⟩
  · have : j ≠ f.s := by simp [Four.is] at hi; exact hi.2.1
    rw [if_neg this] at hj ⊢
    exact h.val j hj hi
  · rw [if_neg n1, if_pos rfl]
    exact ⟨g, hg, hbase, by omega, fun k => (by cases k), fun _ => hv⟩
  · rw [if_neg (Ne.symm n4)] at hq
    rw [if_neg (Ne.symm n4), if_neg (Ne.symm n5)]
    obtain ⟨k, e1, e2, e3, e4, e5⟩ := h.b2 hq
    have hne : k ≠ g := fun e => h.ap hp hq (by rw [hg, e1, e])
    exact ⟨k, e1, e2, by omega, fun q => hZ'.2 w w' k (fun o => ho k o hne) (e4 q), fun q => hV'.2 w w' k (fun o => ho k o hne) (e5 q)⟩
  · rw [if_neg (Ne.symm n4)] at hq
    rw [if_neg n1, if_neg (Ne.symm n4)]
    exact h.ap hp hq
  · rw [if_neg n1]; exact hp
  · rw [if_neg (Ne.symm n5)] at hq
    rw [if_neg (Ne.symm n4)]
    exact h.c2 hq

theorem wanted_of {o : Oper} {t : Array Value} {ops : Array Oper} (h : o.guard = none) : Region.wanted o (yielded ops t) = true := by simp [Region.wanted, h]
/-- The whole region. -/
theorem wp_region_two {id : Nat} {a : Act} {w : World} {l : List Oper} (Φ : List Value) (f : Four) (Z V Z' V' : World → Nat → Prop) (hm : P.follows .mixedOrders = true) (hap : ogApart l = true)
    (hacyc : (List.range l.length).all (fun i => (l[i]?).all fun o => o.after.all fun e => !Region.binds .any e || decide (e.on < i)) = true) (hf : f.ok = true) (hlen : f.p < l.length ∧ f.s < l.length ∧ f.p' < l.length ∧ f.s' < l.length)
    (hZ : OfCells Z) (hV : OfCells V) (hZ' : OfCells Z') (hV' : OfCells V') (hs : BxSteps P Q l a w Φ f 0 l)
    (hn : ∀ o, l[f.p]? = some o → BxNew P Q l a Z o) (hn' : ∀ o, l[f.p']? = some o → BxNew P Q l a Z' o) (hq : ∀ o, l[f.s]? = some o → BxPut P Q l a Φ f f.p Z V o) (hq' : ∀ o, l[f.s']? = some o → BxPut P Q l a Φ f f.p' Z' V' o)
    (hend : ∀ u w' g g', RowKit.Below w.heap.size w w' → (∀ i, i < l.length → f.is i = false → u i = Φ.getD i undef) → u f.p = .pointer (some ⟨g, 0, none⟩) → u f.p' = .pointer (some ⟨g', 0, none⟩) → w.heap.size ≤ g → w.heap.size ≤ g' → V w' g → V' w' g' → g ≠ g' → Q .normal (ogMk 0 l u a) w') :
    (Code.region id l.toArray true).wp P Q a w := by
  have hfs : f.swap.ok = true := by
    obtain ⟨n1, n2, n3, n4, n5, n6⟩ := Four.ne hf
    simp [Four.ok, Four.swap, n6, Ne.symm n2, Ne.symm n3, Ne.symm n4, Ne.symm n5, n1]
  refine wp_region_inv (Two w Φ f Z V Z' V') hm hap hacyc (fun u => ⟨(RowKit.Below.refl _ _).drew, fun i hi => (by cases hi), fun h => (by cases h), fun h => (by cases h), fun h => (by cases h), fun h => h, fun h => h⟩) ?_ ?_
  · intro i o ho D u w1 hI hD hall
    have hpre : ∀ e ∈ o.after, Region.binds .any e = true → f.is e.on = false → u e.on = Φ.getD e.on undef := fun e he hb h => hI.val _ (hall e he hb) h
    cases hi : f.is i
    · have st := hs.at ho
      rw [Nat.zero_add] at st
      obtain ⟨hg, st⟩ := st hi
      refine ⟨wanted_of hg, Oper.wp_mono ?_ (st u w1 hI.bel hpre)⟩
      rintro a' w' ⟨rfl, hb⟩
      exact ⟨_, rfl, hI.plain hZ hV hZ' hV' hb hi⟩
    · simp only [Four.is, Bool.or_eq_true, beq_iff_eq] at hi
      rcases hi with rfl | rfl | rfl | rfl
      · obtain ⟨hg, st⟩ := hn o ho
        refine ⟨wanted_of hg, Oper.wp_mono ?_ (st u w1)⟩
        rintro a' w' ⟨rfl, hb, hlt, hz⟩
        exact ⟨_, rfl, hI.new hf hZ' hV' hD hb hlt hz⟩
      · obtain ⟨hg, hw, st⟩ := hq o ho
        obtain ⟨e, he, hw⟩ := Array.any_eq_true'.1 hw
        simp only [Bool.and_eq_true, decide_eq_true_eq] at hw
        have hp := hall e he hw.1
        rw [hw.2] at hp
        obtain ⟨g, e1, e2, e3, e4, e5⟩ := hI.b1 hp
        refine ⟨wanted_of hg, Oper.wp_mono ?_ (st u w1 g e1 (e4 hD) hpre)⟩
        rintro a' w' ⟨⟨v, rfl⟩, hb, ho, hv⟩
        exact ⟨v, rfl, hI.put hf hZ' hV' hp e1 e2 e3 hb ho hv v⟩
      · obtain ⟨hg, st⟩ := hn' o ho
        refine ⟨wanted_of hg, Oper.wp_mono ?_ (st u w1)⟩
        rintro a' w' ⟨rfl, hb, hlt, hz⟩
        exact ⟨_, rfl, (hI.swap.new hfs hZ hV hD hb hlt hz).swap⟩
      · obtain ⟨hg, hw, st⟩ := hq' o ho
        obtain ⟨e, he, hw⟩ := Array.any_eq_true'.1 hw
        simp only [Bool.and_eq_true, decide_eq_true_eq] at hw
        have hp := hall e he hw.1
        rw [hw.2] at hp
        obtain ⟨g, e1, e2, e3, e4, e5⟩ := hI.b2 hp
        refine ⟨wanted_of hg, Oper.wp_mono ?_ (st u w1 g e1 (e4 hD) hpre)⟩
        rintro a' w' ⟨⟨v, rfl⟩, hb, ho, hv⟩
        exact ⟨v, rfl, (hI.swap.put hfs hZ hV hp e1 e2 e3 hb ho hv v).swap⟩
  · intro D u w1 hI hall
    obtain ⟨g, e1, e2, _, _, e5⟩ := hI.b1 (hall _ hlen.1)
    obtain ⟨g', f1, f2, _, _, f5⟩ := hI.b2 (hall _ hlen.2.2.1)
    exact hend u w1 g g' hI.bel (fun i hi h => hI.val i (hall i hi) h) e1 f1 e2 f2 (e5 (hall _ hlen.2.1)) (f5 (hall _ hlen.2.2.2)) fun h => hI.ap (hall _ hlen.1) (hall _ hlen.2.2.1) (by rw [e1, f1, h])
end
end Go.Proofs.Ytfleppahimlbgaa
