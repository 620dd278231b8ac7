/-
  A disk and DiskScript's own account of it, side by side: what of them a step of either leaves; loads, stores and appends of the account's writes. Conditions: as each theorem says.
-/
import Derived.Test.YtlfggfoaelkapaaLw
set_option linter.unusedSimpArgs false
namespace Go.Proofs.Ytlfggfoaelkapaa
open Go.RowKit

/-- The disk M and the account N, apart from one another, and from what was there at first. -/
structure Inv (w0 w : World) (p k : Nat) (pv : Value) (k2 sb fb cb db : Nat) (v : Value) (M N : Dk) : Prop where
  ds : Ds w p k pv M
  lw : Lw w k2 sb fb cb db v N
  dj : ∀ b, ft p k pv b → ¬ gt k2 sb fb cb db v b
  gf : ∀ b, ft p k pv b → w0.heap.size ≤ b
  gg : ∀ b, gt k2 sb fb cb db v b → w0.heap.size ≤ b
  bl : Below w0.heap.size w0 w
namespace Inv
variable {w0 w w' : World} {p k : Nat} {pv pv' : Value} {k2 sb fb cb db : Nat} {v v' : Value} {M M' N N' : Dk}
theorem disk (h : Inv w0 w p k pv k2 sb fb cb db v M N) (hd : Ds w' p k pv' M') (hs : Step w w' (ft p k pv) (ft p k pv')) : Inv w0 w' p k pv' k2 sb fb cb db v M' N :=
  ⟨hd, h.lw.of_blocks (fun b hb => hs.block b (h.lw.lt b hb) (fun hf => h.dj b hf hb)), fun b hb hg => (hs.foot b hb).elim (fun hf => h.dj b hf hg) (fun e => by have := h.lw.lt b hg; omega),
   hs.ge h.bl.size h.gf, h.gg, h.bl.trans (hs.below h.bl.size h.gf)⟩
theorem law (h : Inv w0 w p k pv k2 sb fb cb db v M N) (hl : Lw w' k2 sb fb cb db v' N') (hs : Step w w' (gt k2 sb fb cb db v) (gt k2 sb fb cb db v')) : Inv w0 w' p k pv k2 sb fb cb db v' M N' :=
  ⟨h.ds.of_blocks (hs.block _ h.ds.plt (h.dj _ Ds.fp)) (hs.block _ h.ds.klt (h.dj _ Ds.fk)) (fun g hg => hs.block g (h.ds.glt hg) (h.dj g (.inr (.inr hg)))), hl,
   fun b hb hg => (hs.foot b hg).elim (h.dj b hb) (fun e => by have := h.ds.lt b hb; omega), h.gf, hs.ge h.bl.size h.gg, h.bl.trans (hs.below h.bl.size h.gg)⟩
theorem below (h : Inv w0 w p k pv k2 sb fb cb db v M N) (hb : Below w.heap.size w w') : Inv w0 w' p k pv k2 sb fb cb db v M N := h.disk (h.ds.below hb) (Step.of_below hb _)
/-- A block beside both is written. -/
theorem other (h : Inv w0 w p k pv k2 sb fb cb db v M N) {V : Nat} (h1 : ¬ ft p k pv V) (h2 : ¬ gt k2 sb fb cb db v V) (h3 : w0.heap.size ≤ V) (o : Nat) (vs : List Value) : Inv w0 (w.setCells V o vs) p k pv k2 sb fb cb db v M N :=
  ⟨h.ds.other h1 o vs, h.lw.of_blocks (fun _ hb => heap_setCells_other _ _ _ _ _ (fun e => h2 (e ▸ hb))), h.dj, h.gf, h.gg, below_setCells V vs o h.bl h3⟩
end Inv
/-- A block beside both, of which something is known. -/
structure Out (w0 w : World) (p k : Nat) (pv : Value) (k2 sb fb cb db : Nat) (v : Value) (b : Nat) (o : Option Obj) : Prop where
  lt : b < w.heap.size
  nf : ¬ ft p k pv b
  ng : ¬ gt k2 sb fb cb db v b
  ge : w0.heap.size ≤ b
  eq : w.heap[b]? = o
namespace Out
variable {w0 w w' : World} {p k : Nat} {pv pv' : Value} {k2 sb fb cb db : Nat} {v v' : Value} {b : Nat} {o : Option Obj}
theorem disk (h : Out w0 w p k pv k2 sb fb cb db v b o) (hs : Step w w' (ft p k pv) (ft p k pv')) : Out w0 w' p k pv' k2 sb fb cb db v b o :=
  ⟨Nat.lt_of_lt_of_le h.lt hs.size, fun hf => (hs.foot b hf).elim h.nf (fun e => by have := h.lt; omega), h.ng, h.ge, (hs.block b h.lt h.nf).trans h.eq⟩
theorem law (h : Out w0 w p k pv k2 sb fb cb db v b o) (hs : Step w w' (gt k2 sb fb cb db v) (gt k2 sb fb cb db v')) : Out w0 w' p k pv k2 sb fb cb db v' b o :=
  ⟨Nat.lt_of_lt_of_le h.lt hs.size, h.nf, fun hf => (hs.foot b hf).elim h.ng (fun e => by have := h.lt; omega), h.ge, (hs.block b h.lt h.ng).trans h.eq⟩
theorem below (h : Out w0 w p k pv k2 sb fb cb db v b o) (hb : Below w.heap.size w w') : Out w0 w' p k pv k2 sb fb cb db v b o := h.disk (Step.of_below hb _)
theorem other (h : Out w0 w p k pv k2 sb fb cb db v b o) {V : Nat} (hV : b ≠ V) (off : Nat) (vs : List Value) : Out w0 (w.setCells V off vs) p k pv k2 sb fb cb db v b o :=
  ⟨by rw [size_setCells]; exact h.lt, h.nf, h.ng, h.ge, (heap_setCells_other _ _ _ _ _ hV).trans h.eq⟩
/-- A new block. -/
theorem fresh {M N : Dk} (h : Inv w0 w p k pv k2 sb fb cb db v M N) (hb : w.heap.size ≤ b) (hl : b < w'.heap.size) : Out w0 w' p k pv k2 sb fb cb db v b w'.heap[b]? :=
  ⟨hl, fun hf => by have := h.ds.lt b hf; omega, fun hf => by have := h.lw.lt b hf; omega, Nat.le_trans h.bl.size hb, rfl⟩
end Out

def OV (x : Nat × (Nat → Nat)) : Obj := .cells (wc x).toArray 40
theorem size40 : (Try.prog.info? 40).map (·.size) = some 65 := by kernel_rfl
set_option maxRecDepth 100000 in
theorem alloc40 (x : Value) (hx : x = .tuple #[]) (w : World) : (Instr.alloc 40 true x).run Try.prog w = .ok (.pointer (some ⟨w.heap.size, 0, none⟩)) (w.alloc (OV (0, zer))) := by
  subst hx
  have e : OV (0, zer) = .cells (#[.int .i64 0] ++ Array.replicate 64 (.int .u8 0)) 40 := by
    unfold OV wc sc zer
    congr 1
  rw [e]
  simp [go_sem, Instr.alloc]
  rfl
theorem load40 {w : World} {b o : Nat} {x : Nat × (Nat → Nat)} (h : w.rangeAt b o (wc x)) : (Instr.loadAt 40 (.pointer (some ⟨b, o, none⟩))).run Try.prog w = .ok (wv x) w :=
  run_loadAt_mid w b o 40 (wc x) _ h Try.underlying40 rfl (by rw [wc_length]; exact size40)
theorem store40 {w : World} {b o : Nat} (x : Nat × (Nat → Nat)) (h : w.there b o 65) : (Instr.storeAt 40 (.pointer (some ⟨b, o, none⟩)) (wv x)).run Try.prog w = .ok () (w.setCells b o (wc x)) := by
  have := run_storeAt_mid (P := Try.prog) w b o 40 (wc x).toArray (by simpa [wc_length] using h) (by simpa [wc_length] using size40) (all_oneCell_toArray (wc_one x))
  simpa [wv] using this
theorem thereOV (w : World) (x : Nat × (Nat → Nat)) : (w.alloc (OV x)).there w.heap.size 0 65 := by
  intro j hj
  have hb : (w.alloc (OV x)).heap[w.heap.size]? = some (.cells (wc x).toArray 40 (0, 0)) := heap_alloc_new _ _
  have hl : j < (wc x).length := by rw [wc_length]; exact hj
  constructor
  · rw [cell_of_row _ _ _ _ _ _ hb]
    simp [hl]
  · unfold World.frozen?
    simp only [hb]
    simp
theorem rangeOV (w : World) (x : Nat × (Nat → Nat)) : (w.alloc (OV x)).rangeAt w.heap.size 0 (wc x) := by
  intro j v hv
  rw [cell_of_row _ _ _ _ _ _ (show (w.alloc (OV x)).heap[w.heap.size]? = some (.cells (wc x).toArray 40 (0, 0)) from heap_alloc_new _ _), Nat.zero_add]
  simpa using hv
/-- A new write of the account's own. -/
def held (w : World) (x : Nat × (Nat → Nat)) : World := (w.alloc (OV (0, zer))).setCells w.heap.size 0 (wc x)
theorem held_below (w : World) (x : Nat × (Nat → Nat)) : Below w.heap.size w (held w x) := below_setCells w.heap.size (wc x) 0 ((Below.refl _ w).alloc (Nat.le_refl _) _) (Nat.le_refl _)
theorem held_range (w : World) (x : Nat × (Nat → Nat)) : (held w x).rangeAt w.heap.size 0 (wc x) := World.rangeAt_setCells_same _ _ 0 (wc x) (by rw [wc_length]; exact thereOV w _)
section
variable {ops : Array Oper} {rest : List Oper} {op : Oper} {a : Act} {w : World} {Q : Exit → Act → World → Prop}
theorem at_alloc40 (hgd : op.guard = none) (ho : op.op = .alloc 40) (h : wpList Try.prog ops Q rest (a.put op.dst (.pointer (some ⟨w.heap.size, 0, none⟩))) (w.alloc (OV (0, zer)))) : wpList Try.prog ops Q (op :: rest) a w :=
  wpList_plain hgd fun _ hK => by
    unfold Oper.wp execOp
    simp only [ho, Sem.run_bind, Sem.run_pure, Result.andThen_ok, alloc40 _ rfl w]
    exact hK _ _ h
theorem at_load40 (x : Operand) (hgd : op.guard = none) (ho : op.op = .load 40 x) (b o : Nat) (y : Nat × (Nat → Nat)) (hx : a.eval x = .pointer (some ⟨b, o, none⟩)) (hr : w.rangeAt b o (wc y)) (h : wpList Try.prog ops Q rest (a.put op.dst (wv y)) w) : wpList Try.prog ops Q (op :: rest) a w :=
  wpList_plain hgd fun _ hK => by
    unfold Oper.wp execOp
    simp only [ho, hx, Sem.run_bind, Sem.run_pure, Result.andThen_ok, load40 hr]
    exact hK _ _ h
theorem at_store40 (x y : Operand) (hgd : op.guard = none) (ho : op.op = .store 40 x y) (b o : Nat) (z : Nat × (Nat → Nat)) (hx : a.eval x = .pointer (some ⟨b, o, none⟩)) (hy : a.eval y = wv z) (hr : w.there b o 65) (h : wpList Try.prog ops Q rest (a.put op.dst undef) (w.setCells b o (wc z))) : wpList Try.prog ops Q (op :: rest) a w :=
  wpList_plain hgd fun _ hK => by
    unfold Oper.wp execOp
    simp only [ho, hx, hy, Sem.run_bind, Sem.run_pure, Result.andThen_ok, store40 z hr]
    exact hK _ _ h
theorem build40 (n : Nat) (s : Nat → Nat) (w : World) : (Instr.build 40 #[(0, .int .i64 (n : Int)), (1, sv s)]).run Try.prog w = .ok (wv (n, s)) w :=
  run_build w 40 _ (wc (n, s)).toArray (by kernel_rfl)
theorem zero40 : (Try.prog.info? 40).map (fun i => (i.zero, i.size, i.bytes)) = some (some (.agg (#[.int .i64 0] ++ Array.replicate 64 (.int .u8 0))), 65, 72) := by kernel_rfl
theorem buildSlice27 (x : Nat × (Nat → Nat)) (w : World) : (Instr.buildSlice 27 1 #[(0, wv x)]).run Try.prog w = .ok (.slice (some ⟨w.heap.size, 0, none⟩) 1 1) (w.alloc (OV x)) := by
  obtain ⟨i, hi, hz⟩ := Option.map_eq_some_iff.1 zero40
  simp only [Prod.mk.injEq] at hz
  obtain ⟨hz, hs, _⟩ := hz
  refine run_buildSlice w 27 40 1 #[(0, wv x)] (wc x).toArray i _ Try.underlying27 hi hz (by rw [hs]; omega) (by rw [hs]; omega) ?_
  rw [hs]
  kernel_rfl
theorem at_build40 (x y : Operand) (hgd : op.guard = none) (ho : op.op = .build 40 #[(0, x), (1, y)]) (n : Nat) (s : Nat → Nat) (hx : a.eval x = .int .i64 (n : Int)) (hy : a.eval y = sv s) (h : wpList Try.prog ops Q rest (a.put op.dst (wv (n, s))) w) : wpList Try.prog ops Q (op :: rest) a w :=
  wpList_plain hgd fun _ hK => by
    unfold Oper.wp execOp
    simp only [ho, hx, hy, Sem.run_bind, Sem.run_pure, Result.andThen_ok, List.map_toArray, List.map_cons, List.map_nil, build40]
    exact hK _ _ h
theorem at_buildSlice27 (x : Operand) (hgd : op.guard = none) (ho : op.op = .buildSlice 27 1 #[(0, x)]) (y : Nat × (Nat → Nat)) (hx : a.eval x = wv y) (h : wpList Try.prog ops Q rest (a.put op.dst (.slice (some ⟨w.heap.size, 0, none⟩) 1 1)) (w.alloc (OV y))) : wpList Try.prog ops Q (op :: rest) a w :=
  wpList_plain hgd fun _ hK => by
    unfold Oper.wp execOp
    simp only [ho, hx, Sem.run_bind, Sem.run_pure, Result.andThen_ok, List.map_toArray, List.map_cons, List.map_nil, buildSlice27]
    exact hK _ _ h
/-- One more write is put behind those that wait. -/
theorem run_append40 (w : World) (ty : TypeId) (v : Value) (l : List (Nat × (Nat → Nat))) (x : Nat × (Nat → Nat)) (hown : w.ownsRow 0 40 65 v l.length (l.flatMap wc)) (b c : Nat) (hr : w.rangeAt b 0 (wc x)) (hl : l.length < 1000000) :
    ∃ g cap w', (Builtin.append_ #[27, 27] ty #[v, .slice (some ⟨b, 0, none⟩) 1 c]).run Try.prog w = .ok (.slice (some ⟨g, 0, none⟩) (l.length + 1) cap) w' ∧
      w'.ownsRow 0 40 65 (.slice (some ⟨g, 0, none⟩) (l.length + 1) cap) (l ++ [x]).length ((l ++ [x]).flatMap wc) ∧ w.grownBy w' v.ownBlock ∧ (v.ownBlock = some g ∨ g = w.heap.size) ∧ g < w'.heap.size := by
  obtain ⟨i, hi, hz⟩ := Option.map_eq_some_iff.1 zero40
  simp only [Prod.mk.injEq] at hz
  obtain ⟨hz0, hz1, hz2⟩ := hz
  obtain ⟨v', w', hrun, h2, h3, _, h5⟩ := run_append_own_at (P := Try.prog) w 0 27 ty 40 i _ 65 72 Try.underlying27 hi hz0 hz1 hz2 (by simp [Value.cells]) (by omega) v l.length (l.flatMap wc) hown ⟨b, 0, none⟩ 1 c (wc x) (by rw [wc_length]) (fun j u hu => by rw [Addr.add_mid]; exact hr j u hu) (wc_one x) (by unfold maxLen; omega) (by omega) (Nat.zero_le _)
  obtain ⟨g, cap, rfl, _, hlt⟩ := h2.form (by omega)
  refine ⟨g, cap, w', hrun, ?_, h3, ?_, hlt⟩
  · rw [List.length_append, List.flatMap_append]
    simpa using h2
  · rcases h5 with h5 | h5
    · exact .inl (by rw [← h5]; rfl)
    · exact .inr (by simpa [Value.ownBlock] using h5)
theorem at_append40 (s y : Operand) (hgd : op.guard = none) (ho : op.op = .call { callee := .builtin .append, args := #[s, y], argTypes := #[27, 27] }) (v : Value) (l : List (Nat × (Nat → Nat))) (x : Nat × (Nat → Nat)) (b c : Nat)
    (hs : a.eval s = v) (hy : a.eval y = .slice (some ⟨b, 0, none⟩) 1 c) (hown : w.ownsRow 0 40 65 v l.length (l.flatMap wc)) (hr : w.rangeAt b 0 (wc x)) (hl : l.length < 1000000)
    (h : ∀ g cap w', w'.ownsRow 0 40 65 (.slice (some ⟨g, 0, none⟩) (l.length + 1) cap) (l ++ [x]).length ((l ++ [x]).flatMap wc) → w.grownBy w' v.ownBlock → (v.ownBlock = some g ∨ g = w.heap.size) → g < w'.heap.size → wpList Try.prog ops Q rest (a.put op.dst (.slice (some ⟨g, 0, none⟩) (l.length + 1) cap)) w') : wpList Try.prog ops Q (op :: rest) a w :=
  wpList_plain hgd fun _ hK => by
    obtain ⟨g, cap, w', hrun, h1, h2, h3, h4⟩ := run_append40 w op.type v l x hown b c hr hl
    unfold Oper.wp execOp
    simp only [ho, resolve, invoke, builtin, Sem.run_bind, Sem.run_pure, Result.andThen_ok, List.map_toArray, List.map_cons, List.map_nil, hs, hy, hrun]
    exact hK _ _ (h g cap w' h1 h2 h3 h4)
end
/-- The account with one more write that waits. -/
theorem Lw.push {w w' : World} {k2 sb fb cb db : Nat} {v : Value} {N : Dk} {n : Nat} {s : Nat → Nat} {g cap : Nat} (h : Lw w k2 sb fb cb db v N) (hown : w'.ownsRow 0 40 65 (.slice (some ⟨g, 0, none⟩) (N.pend.length + 1) cap) (N.pend ++ [(n, s)]).length ((N.pend ++ [(n, s)]).flatMap wc))
    (hg : w.grownBy w' v.ownBlock) (hat : v.ownBlock = some g ∨ g = w.heap.size) (hn : n < N.n) :
    Lw w' k2 sb fb cb db (.slice (some ⟨g, 0, none⟩) (N.pend.length + 1) cap) { N with pend := N.pend ++ [(n, s)] } ∧ Step w w' (gt k2 sb fb cb db v) (gt k2 sb fb cb db (.slice (some ⟨g, 0, none⟩) (N.pend.length + 1) cap)) := by
  obtain ⟨n1, n2, n3, n4, n5⟩ := h.nv
  have e : ∀ b, b < w.heap.size → v.ownBlock ≠ some b → w'.heap[b]? = w.heap[b]? := fun b hb hn => hg.block b hb (fun e => hn e.symm)
  have l1 := h.lt k2 (.inl rfl)
  have l2 := h.lt sb (.inr (.inl rfl))
  have l3 := h.lt fb (.inr (.inr (.inl rfl)))
  have l4 := h.lt cb (.inr (.inr (.inr (.inl rfl))))
  have l5 := h.lt db (.inr (.inr (.inr (.inr (.inl rfl)))))
  have q : ∀ b, b < w.heap.size → v.ownBlock ≠ some b → (Value.slice (some ⟨g, 0, none⟩) (N.pend.length + 1) cap).ownBlock ≠ some b := by
    intro b hb hn e'
    have e' : g = b := by simpa [Value.ownBlock] using e'
    rcases hat with e | e
    · exact hn (e' ▸ e)
    · omega
  refine ⟨⟨h.row.of_block (e _ l1 n1), hown, (e _ l2 n2).trans h.s, (e _ l3 n3).trans h.f, (e _ l4 n4).trans h.c, (e _ l5 n5).trans h.d, h.ks, h.ss, ⟨q _ l1 n1, q _ l2 n2, q _ l3 n3, q _ l4 n4, q _ l5 n5⟩, ?_⟩, ⟨hg.os, hg.tape, hg.output, hg.size, fun b hb hn => e b hb (fun e' => hn (.inr (.inr (.inr (.inr (.inr e')))))), ?_⟩⟩
  · intro x hx
    rcases List.mem_append.1 hx with hx | hx
    · exact h.ats x hx
    · obtain rfl : x = (n, s) := by simpa using hx
      exact hn
  · rintro b (e' | e' | e' | e' | e' | e')
    · exact .inl (.inl e')
    · exact .inl (.inr (.inl e'))
    · exact .inl (.inr (.inr (.inl e')))
    · exact .inl (.inr (.inr (.inr (.inl e'))))
    · exact .inl (.inr (.inr (.inr (.inr (.inl e')))))
    · obtain rfl : g = b := by simpa [Value.ownBlock] using e'
      rcases hat with e | e
      · exact .inl (.inr (.inr (.inr (.inr (.inr e)))))
      · exact .inr (by omega)
end Go.Proofs.Ytlfggfoaelkapaa
