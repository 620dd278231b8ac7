/-
  Operations of a region that draws its order, looked at by what they read alone: the frame is never written out. With guards, too. No condition of the program's.
-/
import Derived.Test.YtcnhagcmklgpkaaTl
set_option linter.unusedSimpArgs false
set_option linter.unusedVariables false
namespace Go.Proofs.Ytcnhagcmklgpkaa
open Go
section
variable {P : Program} {Q : Exit → Act → World → Prop}

theorem ogMk_size {u : Nat → Value} : ∀ (l : List Oper) (k : Nat) (a : Act), (ogMk k l u a).tmps.size = a.tmps.size
  | [], _, _ => rfl
  | o :: l, k, a => by
    rw [ogMk, ogMk_size l (k + 1)]
    cases o.dst with
    | none => rfl
    | some d => simp [Act.put]
theorem og_eval {l : List Oper} {u : Nat → Value} {a : Act} {j d : Nat} (hap : ogApart l = true) (hd : (l[j]?).bind (·.dst) = some d) (hs : d < a.tmps.size) : (ogMk 0 l u a).tmps[d]? = some (u j) := by
  obtain ⟨o, ho, hd⟩ := Option.bind_eq_some_iff.1 hd
  have h1 := ogMk_put (u := u) (v := u j) l 0 j o a hap ho
  rw [Nat.zero_add] at h1
  have h2 : (fun i => if i = j then u j else u i) = u := by
    funext i
    by_cases e : i = j
    · rw [if_pos e, e]
    · rw [if_neg e]
  rw [h2, hd] at h1
  rw [← h1]
  simp [Act.put, ogMk_size, hs]
theorem og_other {u : Nat → Value} {d : Nat} : ∀ (l : List Oper) (k : Nat) (a : Act), (l.all fun o => o.dst != some d) = true → (ogMk k l u a).tmps[d]? = a.tmps[d]?
  | [], _, _, _ => rfl
  | o :: l, k, a, h => by
    simp only [List.all_cons, Bool.and_eq_true, bne_iff_ne] at h
    rw [ogMk, og_other l (k + 1) _ h.2]
    cases e : o.dst with
    | none => rfl
    | some d' =>
      have hne : d' ≠ d := fun q => h.1 (by rw [e, q])
      simp [Act.put, Array.getElem?_setIfInBounds, hne]
/-- What an operation reads: what others gave, what the frame has, constants. -/
structure Rho (l : List Oper) (a : Act) (u : Nat → Value) (ρ : Operand → Value) : Prop where
  op : ∀ j d, ((l[j]?).bind (·.dst) == some d && decide (d < a.tmps.size)) = true → ρ (.tmp d) = u j
  other : ∀ d, (l.all fun o => o.dst != some d) = true → ρ (.tmp d) = a.eval (.tmp d)
  const : ∀ c, ρ (.const c) = c
  func : ∀ f, ρ (.func f) = .func (.func f) #[] #[]
theorem rho_mk {l : List Oper} {a : Act} {u : Nat → Value} (hap : ogApart l = true) : Rho l a u (ogMk 0 l u a).eval := by
  refine ⟨fun j d hds => ?_, fun d h => ?_, fun _ => rfl, fun _ => rfl⟩
  · simp only [Bool.and_eq_true, beq_iff_eq, decide_eq_true_eq] at hds
    have := og_eval (u := u) hap hds.1 hds.2
    show (ogMk 0 l u a).tmps.getD d undef = _
    simp [Array.getD_eq_getD_getElem?, this]
  · have := og_other (u := u) (d := d) l 0 a h
    show (ogMk 0 l u a).tmps.getD d undef = a.tmps.getD d undef
    simp [Array.getD_eq_getD_getElem?, this]
theorem wanted_yes {l : List Oper} {a : Act} {u : Nat → Value} {o : Oper} {j dj : Nat} {b : Bool} (hap : ogApart l = true) (hg : o.guard = some (j, b)) (hjs : ((l[j]?).bind (·.dst) == some dj && decide (dj < a.tmps.size)) = true) (hv : u j = .bool b) :
    Region.wanted o (yielded l.toArray (ogMk 0 l u a).tmps) = true := by
  simp only [Bool.and_eq_true, beq_iff_eq, decide_eq_true_eq] at hjs
  have hj := hjs.1
  have h1 := og_eval (u := u) hap hj hjs.2
  have h2 : (l.toArray[j]?).bind (·.dst) = some dj := by rw [List.getElem?_toArray]; exact hj
  simp only [Region.wanted, hg, yielded, h2, Option.bind_some, h1, hv]
  simp
theorem wanted_no {l : List Oper} {a : Act} {u : Nat → Value} {o : Oper} {j dj : Nat} {b : Bool} (hap : ogApart l = true) (hg : o.guard = some (j, b)) (hjs : ((l[j]?).bind (·.dst) == some dj && decide (dj < a.tmps.size)) = true) (hv : u j = .bool (!b) ∨ u j = undef) :
    Region.wanted o (yielded l.toArray (ogMk 0 l u a).tmps) = false := by
  simp only [Bool.and_eq_true, beq_iff_eq, decide_eq_true_eq] at hjs
  have hj := hjs.1
  have h1 := og_eval (u := u) hap hj hjs.2
  have h2 : (l.toArray[j]?).bind (·.dst) = some dj := by rw [List.getElem?_toArray]; exact hj
  rcases hv with hv | hv
  · simp only [Region.wanted, hg, yielded, h2, Option.bind_some, h1, hv]
    cases b <;> simp
  · simp only [Region.wanted, hg, yielded, h2, Option.bind_some, h1, hv]
    simp [undef]
variable {l : List Oper} {a : Act} {Φ : List (Value → World → Prop)} {i : Nat} {o : Oper} {w0 : World}
/-- What an operation waits for has come up, and holds. -/
def Hp (Φ : List (Value → World → Prop)) (o : Oper) (u : Nat → Value) (w : World) : Prop := ∀ e ∈ o.after, Region.binds .any e = true → fAt Φ e.on (u e.on) w
theorem OgStep.rmade {ops : Array Oper} (hap : ogApart l = true) (hg : o.guard = none)
    (h : ∀ u ρ w, Rho l a u ρ → RowKit.Below w0.heap.size w0 w → Hp Φ o u w → ∃ v w', (execOp ρ o).run P w = .ok (.value v) w' ∧ RowKit.Below w.heap.size w w' ∧ fAt Φ i v w') :
    OgStep P ops Q (fun u => ogMk 0 l u a) (fun w' => RowKit.Below w0.heap.size w0 w') (fun w1 w2 => RowKit.Below w1.heap.size w1 w2) (fAt Φ) i o :=
  OgStep.made hg fun u w hS hp => h u _ w (rho_mk hap) hS hp
theorem OgStep.rpure {ops : Array Oper} (hap : ogApart l = true) (hg : o.guard = none)
    (h : ∀ u ρ w, Rho l a u ρ → RowKit.Below w0.heap.size w0 w → Hp Φ o u w → ∃ v, (execOp ρ o).run P w = .ok (.value v) w ∧ fAt Φ i v w) :
    OgStep P ops Q (fun u => ogMk 0 l u a) (fun w' => RowKit.Below w0.heap.size w0 w') (fun w1 w2 => RowKit.Below w1.heap.size w1 w2) (fAt Φ) i o :=
  OgStep.pure hg fun u w hS hp => h u _ w (rho_mk hap) hS hp
theorem OgStep.rcalls {ops : Array Oper} (hap : ogApart l = true) (hg : o.guard = none)
    (h : ∀ u ρ w, Rho l a u ρ → RowKit.Below w0.heap.size w0 w → Hp Φ o u w → ∃ f args, (execOp ρ o).run P w = .ok (.enter f args) w ∧ Calls P f args w fun e w' => ∃ v, e = .returned v ∧ RowKit.Below w.heap.size w w' ∧ fAt Φ i v w') :
    OgStep P ops Q (fun u => ogMk 0 l u a) (fun w' => RowKit.Below w0.heap.size w0 w') (fun w1 w2 => RowKit.Below w1.heap.size w1 w2) (fAt Φ) i o :=
  OgStep.calls hg fun u w hS hp => h u _ w (rho_mk hap) hS hp
theorem OgStep.gmade (j dj : Nat) (b : Bool) (hap : ogApart l = true) (hg : o.guard = some (j, b)) (hjs : ((l[j]?).bind (·.dst) == some dj && decide (dj < a.tmps.size)) = true) (hv : ∀ u w, Hp Φ o u w → u j = .bool b)
    (h : ∀ u ρ w, Rho l a u ρ → RowKit.Below w0.heap.size w0 w → Hp Φ o u w → ∃ v w', (execOp ρ o).run P w = .ok (.value v) w' ∧ RowKit.Below w.heap.size w w' ∧ fAt Φ i v w') :
    OgStep P l.toArray Q (fun u => ogMk 0 l u a) (fun w' => RowKit.Below w0.heap.size w0 w') (fun w1 w2 => RowKit.Below w1.heap.size w1 w2) (fAt Φ) i o :=
  OgStep.made' (fun u w hp => wanted_yes hap hg hjs (hv u w hp)) fun u w hS hp => h u _ w (rho_mk hap) hS hp
theorem OgStep.gpure (j dj : Nat) (b : Bool) (hap : ogApart l = true) (hg : o.guard = some (j, b)) (hjs : ((l[j]?).bind (·.dst) == some dj && decide (dj < a.tmps.size)) = true) (hv : ∀ u w, Hp Φ o u w → u j = .bool b)
    (h : ∀ u ρ w, Rho l a u ρ → RowKit.Below w0.heap.size w0 w → Hp Φ o u w → ∃ v, (execOp ρ o).run P w = .ok (.value v) w ∧ fAt Φ i v w) :
    OgStep P l.toArray Q (fun u => ogMk 0 l u a) (fun w' => RowKit.Below w0.heap.size w0 w') (fun w1 w2 => RowKit.Below w1.heap.size w1 w2) (fAt Φ) i o :=
  OgStep.pure' (fun u w hp => wanted_yes hap hg hjs (hv u w hp)) fun u w hS hp => h u _ w (rho_mk hap) hS hp
theorem OgStep.gcalls (j dj : Nat) (b : Bool) (hap : ogApart l = true) (hg : o.guard = some (j, b)) (hjs : ((l[j]?).bind (·.dst) == some dj && decide (dj < a.tmps.size)) = true) (hv : ∀ u w, Hp Φ o u w → u j = .bool b)
    (h : ∀ u ρ w, Rho l a u ρ → RowKit.Below w0.heap.size w0 w → Hp Φ o u w → ∃ f args, (execOp ρ o).run P w = .ok (.enter f args) w ∧ Calls P f args w fun e w' => ∃ v, e = .returned v ∧ RowKit.Below w.heap.size w w' ∧ fAt Φ i v w') :
    OgStep P l.toArray Q (fun u => ogMk 0 l u a) (fun w' => RowKit.Below w0.heap.size w0 w') (fun w1 w2 => RowKit.Below w1.heap.size w1 w2) (fAt Φ) i o :=
  OgStep.calls' (fun u w hp => wanted_yes hap hg hjs (hv u w hp)) fun u w hS hp => h u _ w (rho_mk hap) hS hp
theorem OgStep.gskip (j dj : Nat) (b : Bool) (hap : ogApart l = true) (hg : o.guard = some (j, b)) (hjs : ((l[j]?).bind (·.dst) == some dj && decide (dj < a.tmps.size)) = true) (hv : ∀ u w, Hp Φ o u w → u j = .bool (!b) ∨ u j = undef) (hi : fAt Φ i = fx undef) :
    OgStep P l.toArray Q (fun u => ogMk 0 l u a) (fun w' => RowKit.Below w0.heap.size w0 w') (fun w1 w2 => RowKit.Below w1.heap.size w1 w2) (fAt Φ) i o :=
  OgStep.skip hi fun u w hp => wanted_no hap hg hjs (hv u w hp)
/-- The whole region; that no two operations write one slot is shown once. -/
theorem wp_region_rho {id : Nat} {a : Act} {w : World} {l : List Oper} (Φ : List (Value → World → Prop)) (hm : P.follows .mixedOrders = true) (hap : ogApart l = true)
    (hacyc : (List.range l.length).all (fun i => (l[i]?).all fun o => o.after.all fun e => !Region.binds .any e || decide (e.on < i)) = true) (hΦ : ∀ φ ∈ Φ, Stable φ)
    (hstep : ogApart l = true → OgSteps P l.toArray Q (fun u => ogMk 0 l u a) (fun w' => RowKit.Below w.heap.size w w') (fun w1 w2 => RowKit.Below w1.heap.size w1 w2) (fAt Φ) 0 l)
    (hend : ∀ u w', RowKit.Below w.heap.size w w' → (∀ i, i < l.length → fAt Φ i (u i) w') → Q .normal (ogMk 0 l u a) w') : (Code.region id l.toArray true).wp P Q a w :=
  wp_region_below Φ hm hap hacyc hΦ (hstep hap) hend
/-- The same, the last operations behind all others. -/
theorem wp_region_rho_tail {id : Nat} {a : Act} {w : World} {L : List Oper} (n : Nat) (Φ : List (Value → World → Prop)) (hm : P.follows .mixedOrders = true) (hT : L.drop n ≠ []) (hap : ogApart (L.take n) = true)
    (hacyc : (List.range L.length).all (fun i => (L[i]?).all fun o => o.after.all fun e => !Region.binds .any e || decide (e.on < i)) = true)
    (hwait : (List.range (L.drop n).length).all (fun m => waitB L ((L.take n).length + m)) = true)
    (hΦ : ∀ φ ∈ Φ, Stable φ)
    (hstep : ogApart (L.take n) = true → OgSteps P L.toArray Q (fun u => ogMk 0 (L.take n) u a) (fun w' => RowKit.Below w.heap.size w w') (fun w1 w2 => RowKit.Below w1.heap.size w1 w2) (fAt Φ) 0 (L.take n))
    (hend : ∀ u w', RowKit.Below w.heap.size w w' → (∀ i, i < (L.take n).length → fAt Φ i (u i) w') → wpList P L.toArray Q (L.drop n) (ogMk 0 (L.take n) u a) w') : (Code.region id L.toArray true).wp P Q a w :=
  wp_region_below_tail n Φ hm hT hap hacyc hwait hΦ (hstep hap) hend
end
end Go.Proofs.Ytcnhagcmklgpkaa
