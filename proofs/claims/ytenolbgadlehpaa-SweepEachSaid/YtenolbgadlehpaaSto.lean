/-
  A region that draws its order, makes a variable and stores into it once, other operations coming in any order around that ('a, b := f()', a boxed): each operation is looked at once. No condition of the program's.
-/
import Derived.Test.YtenolbgadlehpaaOg
namespace Go.Proofs.Ytenolbgadlehpaa
open Go
section
variable {P : Program} {Q : Exit → Act → World → Prop}

/-- The whole region, by what holds of the operations that have come up. -/
theorem wp_region_inv {id : Nat} {a : Act} {w : World} {l : List Oper} (I : (Nat → Bool) → (Nat → Value) → World → Prop) (hm : P.follows .mixedOrders = true) (hap : ogApart l = true)
    (hacyc : (List.range l.length).all (fun i => (l[i]?).all fun o => o.after.all fun e => !Region.binds .any e || decide (e.on < i)) = true) (h0 : ∀ u, I (fun _ => false) u w.drew)
    (hstep : ∀ i o, l[i]? = some o → ∀ D u w, I D u w → D i = false → (∀ e ∈ o.after, Region.binds .any e = true → D e.on = true) →
      Region.wanted o (yielded l.toArray (ogMk 0 l u a).tmps) = true ∧ o.wp P (ogMk 0 l u a) w (fun a' w' => ∃ v, a' = (ogMk 0 l u a).put o.dst v ∧ I (fun j => if j = i then true else D j) (fun j => if j = i then v else u j) w') Q)
    (hend : ∀ D u w, I D u w → (∀ i, i < l.length → D i = true) → Q .normal (ogMk 0 l u a) w) : (Code.region id l.toArray true).wp P Q a w := by
  obtain ⟨u0, hu0⟩ := ogMk_own l 0 a
  have hput := ogPut_mk a l hap l 0 fun i o ho => by rwa [Nat.zero_add]
  suffices H : ∀ a', a' = ogMk 0 l u0 a → (Code.region id l.toArray true).wp P Q a' w from H a hu0.symm
  rintro _ rfl
  refine wp_region_any hm ?_
  have hsz : l.toArray.size = (Array.replicate l.toArray.size false).toList.countP (· == false) := by simp [List.countP_replicate]
  conv => arg 5; rw [hsz]
  refine wpAny_inv (ops := l.toArray) (fun ls a' w => ls.size = l.toArray.size ∧ ∃ u D, a' = ogMk 0 l u a ∧ I D u w ∧ ∀ j, ls.getD j false = D j) (fun _ _ _ h => h.1) ?_ ?_ _ _ _ _ rfl ⟨by simp, u0, fun _ => false, rfl, h0 u0, fun j => by
    show (Array.replicate l.toArray.size false).getD j false = false
    rw [Array.getD_eq_getD_getElem?, Array.getElem?_replicate]
    split <;> rfl⟩
  · rintro ls a' w i ⟨hl, u, D, rfl, hI, hD⟩ hi
    obtain ⟨hun, o, ho, hall⟩ := mem_ready.1 hi
    have ho' : l[i]? = some o := by simpa using ho
    have hil : i < ls.size := by
      rcases Nat.lt_or_ge i ls.size with h' | h'
      · exact h'
      · simp [h'] at hun
    have hDi : D i = false := by rw [← hD]; simpa [hil] using hun
    obtain ⟨hw, st⟩ := hstep i o ho' D u w hI hDi fun e he hb => by rw [← hD]; exact hall e he hb
    have pt := hput.at ho'
    rw [Nat.zero_add] at pt
    unfold wpOp
    simp only [ho]
    rw [if_pos hw]
    refine .inl (Oper.wp_mono ?_ st)
    rintro a' w' ⟨v, rfl, hI'⟩
    refine ⟨by simpa using hl, _, _, pt u v, hI', fun j => ?_⟩
    by_cases hji : j = i
    · subst hji
      rw [if_pos rfl]
      exact getD_set_self hil
    · rw [if_neg hji, getD_set_ne false (Ne.symm hji)]
      exact hD j
  · rintro ls a' w ⟨hl, u, D, rfl, hI, hD⟩ hr
    refine hend D u w hI fun i hi => ?_
    have hl' : ls.size = l.length := by simpa using hl
    have key : ∀ n i, i < n → i < l.length → ls.getD i false = true := by
      intro n
      induction n with
      | zero => intro i h; omega
      | succ n ih =>
        intro i hin hil
        by_cases hc : ls.getD i false = true
        · exact hc
        · exfalso
          have hc' : ls.getD i true = false := by
            have : i < ls.size := by omega
            simp [this] at hc ⊢
            exact hc
          have hmem : i ∈ Region.ready .any l.toArray ls := by
            refine mem_ready.2 ⟨hc', l[i], by simp [hil], fun e he hb => ?_⟩
            have h1 := List.all_eq_true.1 hacyc i (List.mem_range.2 hil)
            rw [List.getElem?_eq_getElem hil] at h1
            simp only [Option.all_some] at h1
            have h2 := Array.all_eq_true_iff_forall_mem.1 h1 e he
            simp only [hb, Bool.not_true, Bool.false_or, decide_eq_true_eq] at h2
            exact ih e.on (by omega) (by omega)
          rw [hr] at hmem
          cases hmem
    rw [← hD]
    exact key (i + 1) i (by omega) hi


/-- What goes on holding where the new variable is turned. -/
def Turned (Zo : Obj) (φ : Value → World → Prop) : Prop := ∀ (v : Value) (w w' : World) (g : Nat), φ v w → w.heap[g]? = some Zo → (∀ k, k ≠ g → w'.heap[k]? = w.heap[k]?) → φ v w'
theorem turned_fx (Zo : Obj) (c : Value) : Turned Zo (fx c) := fun _ _ _ _ h _ _ => h
/-- Nothing is said. -/
def tT : Value → World → Prop := fun _ _ => True
theorem stable_tT : Stable tT := fun _ _ _ _ _ => trivial
theorem turned_tT (Zo : Obj) : Turned Zo tT := fun _ _ _ _ _ _ _ => trivial
theorem turned_at {Zo : Obj} {Φ : List (Value → World → Prop)} (h : ∀ φ ∈ Φ, Turned Zo φ) (i : Nat) : Turned Zo (fAt Φ i) := by
  unfold fAt
  rw [List.getD_eq_getElem?_getD]
  cases hi : Φ[i]? with
  | none => intro _ _ _ _ _ _ _; trivial
  | some φ => exact h φ (List.mem_of_getElem? hi)
def StStep (P : Program) (Q : Exit → Act → World → Prop) (L : List Oper) (a : Act) (w0 : World) (Φ : List (Value → World → Prop)) (p s i : Nat) (o : Oper) : Prop :=
  i ≠ p → i ≠ s → OgStep P L.toArray Q (fun u => ogMk 0 L u a) (fun w' => RowKit.Below w0.heap.size w0 w') (fun w1 w2 => RowKit.Below w1.heap.size w1 w2) (fAt Φ) i o
def StSteps (P : Program) (Q : Exit → Act → World → Prop) (L : List Oper) (a : Act) (w0 : World) (Φ : List (Value → World → Prop)) (p s : Nat) : Nat → List Oper → Prop
  | _, [] => True
  | k, o :: r => StStep P Q L a w0 Φ p s k o ∧ StSteps P Q L a w0 Φ p s (k + 1) r
theorem StSteps.nil {L : List Oper} {a : Act} {w0 : World} {Φ : List (Value → World → Prop)} {p s k : Nat} : StSteps P Q L a w0 Φ p s k [] := trivial
theorem StSteps.cons {L : List Oper} {a : Act} {w0 : World} {Φ : List (Value → World → Prop)} {p s k : Nat} {o : Oper} {r : List Oper} (h : StStep P Q L a w0 Φ p s k o) (g : StSteps P Q L a w0 Φ p s (k + 1) r) : StSteps P Q L a w0 Φ p s k (o :: r) := ⟨h, g⟩
theorem StSteps.at {L : List Oper} {a : Act} {w0 : World} {Φ : List (Value → World → Prop)} {p s : Nat} : ∀ {r : List Oper} {k : Nat}, StSteps P Q L a w0 Φ p s k r → ∀ {i : Nat} {o : Oper}, r[i]? = some o → StStep P Q L a w0 Φ p s (k + i) o
  | [], _, _, i, o, h => by simp at h
  | _ :: _, _, hs, 0, o, h => by simp at h; subst h; exact hs.1
  | _ :: _, k, hs, i + 1, o, h => by
    have := StSteps.at hs.2 (i := i) (o := o) (by simpa using h)
    rwa [show k + 1 + i = k + (i + 1) by omega] at this
/-- What is known in the midst. -/
structure StI (w0 : World) (Φ : List (Value → World → Prop)) (p s : Nat) (Zo : Obj) (V : World → Nat → Prop) (D : Nat → Bool) (u : Nat → Value) (w : World) : Prop where
  bel : RowKit.Below w0.heap.size w0 w
  val : ∀ i, D i = true → i ≠ p → i ≠ s → fAt Φ i (u i) w
  new : D p = true → ∃ g, u p = .pointer (some ⟨g, 0, none⟩) ∧ w0.heap.size ≤ g ∧ (D s = false → w.heap[g]? = some Zo) ∧ (D s = true → V w g)
  ord : D s = true → D p = true
/-- The whole region. -/
theorem wp_region_store {id : Nat} {a : Act} {w : World} {L : List Oper} (Φ : List (Value → World → Prop)) (p s : Nat) (Zo : Obj) (V : World → Nat → Prop) (hm : P.follows .mixedOrders = true) (hap : ogApart L = true)
    (hacyc : (List.range L.length).all (fun i => (L[i]?).all fun o => o.after.all fun e => !Region.binds .any e || decide (e.on < i)) = true) (hng : (List.range L.length).all (fun i => (L[i]?).all fun o => o.guard.isNone) = true) (hpl : p < L.length) (hsl : s < L.length) (hps : p ≠ s)
    (hΦ : ∀ φ ∈ Φ, Stable φ ∧ Turned Zo φ) (hp : fAt Φ p = tT) (hs : fAt Φ s = tT) (hV : ∀ w w' g, V w g → RowKit.Below w.heap.size w w' → V w' g)
    (hstep : StSteps P Q L a w Φ p s 0 L)
    (hnew : ∀ o, L[p]? = some o → o.guard = none ∧ ∀ u w1, o.wp P (ogMk 0 L u a) w1 (fun a' w' => a' = (ogMk 0 L u a).put o.dst (.pointer (some ⟨w1.heap.size, 0, none⟩)) ∧ RowKit.Below w1.heap.size w1 w' ∧ w'.heap[w1.heap.size]? = some Zo) Q)
    (hput : ∀ o, L[s]? = some o → o.guard = none ∧ (o.after.any fun e => Region.binds .any e && decide (e.on = p)) = true ∧ ∀ u w1 g, u p = .pointer (some ⟨g, 0, none⟩) → w1.heap[g]? = some Zo → (∀ e ∈ o.after, Region.binds .any e = true → fAt Φ e.on (u e.on) w1) →
      o.wp P (ogMk 0 L u a) w1 (fun a' w' => (∃ v, a' = (ogMk 0 L u a).put o.dst v) ∧ (∀ B, B ≤ g → RowKit.Below B w1 w') ∧ (∀ k, k ≠ g → w'.heap[k]? = w1.heap[k]?) ∧ V w' g) Q)
    (hend : ∀ u w' g, RowKit.Below w.heap.size w w' → (∀ i, i < L.length → fAt Φ i (u i) w') → u p = .pointer (some ⟨g, 0, none⟩) → w.heap.size ≤ g → V w' g → Q .normal (ogMk 0 L u a) w') : (Code.region id L.toArray true).wp P Q a w := by
  have hst : ∀ i, Stable (fAt Φ i) := stable_at fun φ h => (hΦ φ h).1
  have htu : ∀ i, Turned Zo (fAt Φ i) := turned_at fun φ h => (hΦ φ h).2
  have all : ∀ {D u w1}, StI w Φ p s Zo V D u w1 → ∀ i, D i = true → fAt Φ i (u i) w1 := fun {D u w1} hI i hi => by
    by_cases h1 : i = p
    · subst h1; rw [hp]; trivial
    · by_cases h2 : i = s
      · subst h2; rw [hs]; trivial
      · exact hI.val i hi h1 h2
  refine wp_region_inv (StI w Φ p s Zo V) hm hap hacyc (fun u => ⟨(RowKit.Below.refl _ _).drew, fun i hi => (by cases hi), fun h => (by cases h), fun h => (by cases h)⟩) ?_ ?_
  · intro i o ho D u w1 hI hD hall
    have hpre : ∀ e ∈ o.after, Region.binds .any e = true → fAt Φ e.on (u e.on) w1 := fun e he hb => all hI _ (hall e he hb)
    by_cases h1 : i = p
    · subst h1
      obtain ⟨hg, st⟩ := hnew o ho
      have hDs : D s = false := by
        cases h : D s
        · rfl
        · rw [hI.ord h] at hD; cases hD
      refine ⟨by simp [Region.wanted, hg], Oper.wp_mono ?_ (st u w1)⟩
      rintro a' w' ⟨rfl, hb, hz⟩
      refine ⟨_, rfl, ⟨hI.bel.trans (hb.mono hI.bel.size), fun j hj h1 h2 => ?_, fun _ => ⟨w1.heap.size, by simp, hI.bel.size, fun _ => hz, fun h => ?_⟩, fun h => ?_⟩⟩
      · rw [if_neg h1] at hj ⊢
        exact hst j _ _ _ (hI.val j hj h1 h2) hb
      · rw [if_neg (Ne.symm hps), hDs] at h; cases h
      · simp
    · by_cases h2 : i = s
      · subst h2
        obtain ⟨hg, hw, st⟩ := hput o ho
        obtain ⟨e, he, hw⟩ := Array.any_eq_true'.1 hw
        simp only [Bool.and_eq_true, decide_eq_true_eq] at hw
        have hdp := hall e he hw.1
        rw [hw.2] at hdp
        obtain ⟨g, e1, e2, e3, -⟩ := hI.new hdp
        refine ⟨by simp [Region.wanted, hg], Oper.wp_mono ?_ (st u w1 g e1 (e3 hD) hpre)⟩
        rintro a' w' ⟨⟨v, rfl⟩, hb, hk, hv⟩
        refine ⟨v, rfl, ⟨hI.bel.trans (hb _ e2), fun j hj h3 h4 => ?_, fun _ => ⟨g, by rw [if_neg hps]; exact e1, e2, fun h => ?_, fun _ => hv⟩, fun _ => by rw [if_neg hps]; exact hdp⟩⟩
        · rw [if_neg h4] at hj ⊢
          exact htu j _ _ _ g (hI.val j hj h3 h4) (e3 hD) hk
        · simp at h
      · have st := hstep.at ho
        rw [Nat.zero_add] at st
        have sw := st h1 h2 u w1 hI.bel hpre
        have hnext : ∀ v w', fAt Φ i v w' → RowKit.Below w1.heap.size w1 w' → StI w Φ p s Zo V (fun j => if j = i then true else D j) (fun j => if j = i then v else u j) w' := fun v w' hF hb =>
          ⟨hI.bel.trans (hb.mono hI.bel.size), fun j hj h3 h4 => by
            by_cases hji : j = i
            · subst hji
              simp only [if_true]
              exact hF
            · rw [if_neg hji] at hj ⊢
              exact hst j _ _ _ (hI.val j hj h3 h4) hb, fun hj => by
            rw [if_neg (Ne.symm h1)] at hj
            obtain ⟨g, e1, e2, e3, e4⟩ := hI.new hj
            refine ⟨g, by rw [if_neg (Ne.symm h1)]; exact e1, e2, fun h => ?_, fun h => ?_⟩
            · rw [if_neg (Ne.symm h2)] at h
              have := e3 h
              rw [hb.block g (Array.getElem?_eq_some_iff.1 this).1]
              exact this
            · rw [if_neg (Ne.symm h2)] at h
              exact hV _ _ _ (e4 h) hb, fun h => by
            rw [if_neg (Ne.symm h2)] at h
            rw [if_neg (Ne.symm h1)]
            exact hI.ord h⟩
        have hgn : o.guard = none := by
          have hil := (List.getElem?_eq_some_iff.1 ho).1
          have := List.all_eq_true.1 hng i (List.mem_range.2 hil)
          rw [ho] at this
          simpa using this
        have hwt : Region.wanted o (yielded L.toArray (ogMk 0 L u a).tmps) = true := by simp [Region.wanted, hgn]
        rw [if_pos hwt] at sw
        refine ⟨hwt, Oper.wp_mono ?_ sw⟩
        rintro a' w' ⟨v, rfl, hF, -, hb⟩
        exact ⟨v, rfl, hnext v w' hF hb⟩
  · intro D u w1 hI hall
    obtain ⟨g, e1, e2, -, e4⟩ := hI.new (hall _ hpl)
    exact hend u w1 g hI.bel (fun i hi => all hI i (hall i hi)) e1 e2 (e4 (hall _ hsl))
end
end Go.Proofs.Ytenolbgadlehpaa
