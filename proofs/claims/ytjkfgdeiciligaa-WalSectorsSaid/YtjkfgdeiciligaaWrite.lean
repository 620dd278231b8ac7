/-
  The contract of Write: what it returns, and what becomes of the disk. Conditions: a disk is there, and fewer than a million calls were counted.
-/
import Derived.Test.YtjkfgdeiciligaaRead
import Derived.Deep.RegionHeld3
import Derived.Great.BuildSlice
import Derived.Maps.AppendAt
set_option linter.unusedSimpArgs false
namespace Go.Proofs.Ytjkfgdeiciligaa
open Go.RowKit

theorem Only.step {w w' : World} {p k : Nat} {pv : Value} (h : Only w w' p) : Step w w' (ft p k pv) (ft p k pv) :=
  ⟨h.1.os, h.1.tape, h.1.output, h.1.size, fun b hb hn => h.1.block b hb (fun e => hn (.inl e)), fun _ h => .inl h⟩

set_option maxRecDepth 100000 in
theorem write_no (p k : Nat) (pv : Value) (M : Dk) (n : Int) (s : Nat → Nat) (w : World) (h : Ds w p k pv M) (hr : rfs M n ≠ 0) :
    Calls Try.prog 45 #[.pointer (some ⟨p, 0, none⟩), .int .i64 n, sv s] w fun e w' => e = .returned (.int .i64 (rfs M n)) ∧ Below w.heap.size w w' := by
  have C := Lib.hid fun w h => refusal_any p k pv M n w h
  have H := Lib.hid h
  clear h
  generalize rfs M n = r at *
  have HQ := Lib.hid hr
  clear hr
  go_enter Try.func45, Try.ntmps45
  go_wp2_with (refine at_box38 _ rfl rfl _ rfl ?_)
  have B := Lib.hid ((Below.refl w.heap.size w).alloc (Nat.le_refl _) (OS s))
  refine (C.out _ (H.out.alloc _)).mono ?_
  rintro e w1 ⟨rfl, rfl⟩
  generalize w.alloc (OS s) = w1 at *
  clear H C
  have hr := HQ.out
  go_wp2
  go_ret
  exact ⟨rfl, B.out⟩

theorem rfs_ok {M : Dk} {n : Nat} (hd : M.down = false) (hn : n < M.n) : rfs M (n : Int) = 0 := by unfold rfs; rw [hd]; simp; omega

/-- What Write makes of a disk. -/
def Dk.wrote (M : Dk) (n : Nat) (s : Nat → Nat) : Dk := if M.err = 10 then M.cnt else { M.cnt with pend := M.pend ++ [(n, s)] }

set_option maxRecDepth 100000 in
theorem write_fails (p k : Nat) (pv : Value) (M : Dk) (n : Nat) (s : Nat → Nat) (w : World) (h : Ds w p k pv M) (hd : M.down = false) (hn : n < M.n) (hc : M.calls + 1 < 1000000) (he : M.err = 10) :
    Calls Try.prog 45 #[.pointer (some ⟨p, 0, none⟩), .int .i64 n, sv s] w fun e w' => e = .returned (.int .i64 10) ∧ Ds w' p k pv M.cnt ∧ Step w w' (ft p k pv) (ft p k pv) := by
  have C := Lib.hid fun w h => rfs_ok hd hn ▸ refusal_any p k pv M n w h
  have N := Lib.hid fun w h => he ▸ count_any p k pv M w h hc
  have H := Lib.hid h
  clear h hd
  go_enter Try.func45, Try.ntmps45
  go_wp2_with (refine at_box38 _ rfl rfl _ rfl ?_)
  have S1 := Lib.hid ((Step.refl w (ft p k pv)).alloc (OS s))
  have H1 := Lib.hid (H.out.alloc (OS s))
  refine (C.out _ H1.out).mono ?_
  rintro e w1 ⟨rfl, rfl⟩
  generalize w.alloc (OS s) = w1 at *
  go_wp2_with fail
  refine (N.out _ H1.out).mono ?_
  rintro e w2 ⟨rfl, h2, ho⟩
  have H2 := Lib.hid h2
  have S2 := Lib.hid (S1.out.trans ho.step)
  clear h2 ho
  go_wp2_with fail
  go_ret
  exact ⟨rfl, H2.out, S2.out⟩

theorem build61 (n : Nat) (s : Nat → Nat) (w : World) : (Instr.build 73 #[(0, .int .i64 (n : Int)), (1, sv s)]).run Try.prog w = .ok (wv (n, s)) w :=
  run_build w 73 _ (wc (n, s)).toArray (by kernel_rfl)
theorem zero61 : (Try.prog.info? 73).map (fun i => (i.zero, i.size, i.bytes)) = some (some (.agg (#[.int .i64 0] ++ Array.replicate 64 (.int .u8 0))), 65, 72) := by kernel_rfl
theorem buildSlice54 (x : Nat × (Nat → Nat)) (w : World) : (Instr.buildSlice 59 1 #[(0, wv x)]).run Try.prog w = .ok (.slice (some ⟨w.heap.size, 0, none⟩) 1 1) (w.alloc (OW x)) := by
  obtain ⟨i, hi, hz⟩ := Option.map_eq_some_iff.1 zero61
  simp only [Prod.mk.injEq] at hz
  obtain ⟨hz, hs, _⟩ := hz
  refine run_buildSlice w 59 73 1 #[(0, wv x)] (wc x).toArray i _ Try.underlying59 hi hz (by rw [hs]; omega) (by rw [hs]; omega) ?_
  rw [hs]
  kernel_rfl

section
variable {op : Oper} {a : Act} {w : World}
theorem exec_build61 (x y : Operand) (n : Nat) (s : Nat → Nat) (ho : op.op = .build 73 #[(0, x), (1, y)]) (hx : a.eval x = .int .i64 (n : Int)) (hy : a.eval y = sv s) : (execOp a.eval op).run Try.prog w = .ok (.value (wv (n, s))) w := by
  unfold execOp
  simp only [ho, Sem.run_bind, List.map_toArray, List.map_cons, List.map_nil, hx, hy, build61, Result.andThen_ok, Sem.run_pure]
theorem exec_buildSlice54 (x : Operand) (y : Nat × (Nat → Nat)) (ho : op.op = .buildSlice 59 1 #[(0, x)]) (hx : a.eval x = wv y) : (execOp a.eval op).run Try.prog w = .ok (.value (.slice (some ⟨w.heap.size, 0, none⟩) 1 1)) (w.alloc (OW y)) := by
  unfold execOp
  simp only [ho, Sem.run_bind, List.map_toArray, List.map_cons, List.map_nil, hx, buildSlice54, Result.andThen_ok, Sem.run_pure]
theorem exec_load38 (x : Operand) (b o : Nat) (s : Nat → Nat) (ho : op.op = .load 52 x) (hx : a.eval x = .pointer (some ⟨b, o, none⟩)) (hr : w.rangeAt b o (sc s)) : (execOp a.eval op).run Try.prog w = .ok (.value (sv s)) w := by
  unfold execOp
  simp only [ho, hx, Sem.run_bind, load38 hr, Result.andThen_ok, Sem.run_pure]
theorem wp_run {K : Act → World → Prop} {Q : Exit → Act → World → Prop} {w' : World} {v : Value} {d : Nat} (hd : op.dst = some d) (h : (execOp a.eval op).run Try.prog w = .ok (.value v) w') (hK : K (a.put (some d) v) w') : Oper.wp Try.prog op a w K Q := by
  unfold Oper.wp
  rw [h]
  rw [← hd] at hK
  exact hK
theorem take_at {ops : Array Oper} {md : Region.Mode} {Q : Exit → Act → World → Prop} {S : World → Prop} {oi : Oper} {fuel : Nat} {listed : Array Bool} (i d : Nat) (v : Value) (hi : ops[i]? = some oi) (hd : oi.dst = some d)
    (hs : Region.noSelect ops = true) (hf : Region.free md ops listed i = true) (hr : (Region.ready md ops listed).contains i = true)
    (hQ : ∀ c a w, Q (.panic c) (a.put (some d) v) w → Q (.panic c) a w) (hy : YieldsIf Try.prog ops S oi v a) (hS : S w)
    (h : wpAnyH Try.prog md ops Q S fuel (listed.setIfInBounds i true) (a.put (some d) v) w) : wpAnyH Try.prog md ops Q S (fuel + 1) listed a w := by
  rw [← hd] at h
  exact wpAnyH_take hi hs hf hr (by rw [hd]; exact hQ) hy hS h
end

/-- One more write is put behind those that wait. -/
theorem run_append61 (w : World) (ty : TypeId) (v : Value) (l : List (Nat × (Nat → Nat))) (x : Nat × (Nat → Nat)) (hown : w.ownsRow 0 73 65 v l.length (l.flatMap wc)) (b c : Nat) (hr : w.rangeAt b 0 (wc x)) (hl : l.length < 1000000) :
    ∃ g cap w', (Builtin.append_ #[59, 59] ty #[v, .slice (some ⟨b, 0, none⟩) 1 c]).run Try.prog w = .ok (.slice (some ⟨g, 0, none⟩) (l.length + 1) cap) w' ∧
      w'.ownsRow 0 73 65 (.slice (some ⟨g, 0, none⟩) (l.length + 1) cap) (l ++ [x]).length ((l ++ [x]).flatMap wc) ∧ w.grownBy w' v.ownBlock ∧ (v.ownBlock = some g ∨ g = w.heap.size) ∧ g < w'.heap.size := by
  obtain ⟨i, hi, hz⟩ := Option.map_eq_some_iff.1 zero61
  simp only [Prod.mk.injEq] at hz
  obtain ⟨hz0, hz1, hz2⟩ := hz
  obtain ⟨v', w', hrun, h2, h3, _, h5⟩ := run_append_own_at (P := Try.prog) w 0 59 ty 73 i _ 65 72 Try.underlying59 hi hz0 hz1 hz2 (by simp [Value.cells]) (by omega) v l.length (l.flatMap wc) hown ⟨b, 0, none⟩ 1 c (wc x) (by rw [wc_length]) (fun j u hu => by rw [Addr.add_mid]; exact hr j u hu) (wc_one x) (by unfold maxLen; omega) (by omega) (Nat.zero_le _)
  obtain ⟨g, cap, rfl, _, hlt⟩ := h2.form (by omega)
  refine ⟨g, cap, w', hrun, ?_, h3, ?_, hlt⟩
  · rw [List.length_append, List.flatMap_append]
    simpa using h2
  · rcases h5 with h5 | h5
    · exact .inl (by rw [← h5]; rfl)
    · exact .inr (by simpa [Value.ownBlock] using h5)
theorem exec_append61 {op : Oper} {a : Act} {w : World} (s y : Operand) (ho : op.op = .call { callee := .builtin .append, args := #[s, y], argTypes := #[59, 59] }) (v : Value) (l : List (Nat × (Nat → Nat))) (x : Nat × (Nat → Nat)) (b c : Nat)
    (hs : a.eval s = v) (hy : a.eval y = .slice (some ⟨b, 0, none⟩) 1 c) (hown : w.ownsRow 0 73 65 v l.length (l.flatMap wc)) (hr : w.rangeAt b 0 (wc x)) (hl : l.length < 1000000) :
    ∃ g cap w', (execOp a.eval op).run Try.prog w = .ok (.value (.slice (some ⟨g, 0, none⟩) (l.length + 1) cap)) w' ∧
      w'.ownsRow 0 73 65 (.slice (some ⟨g, 0, none⟩) (l.length + 1) cap) (l ++ [x]).length ((l ++ [x]).flatMap wc) ∧ w.grownBy w' v.ownBlock ∧ (v.ownBlock = some g ∨ g = w.heap.size) ∧ g < w'.heap.size := by
  obtain ⟨g, cap, w', hrun, r⟩ := run_append61 w op.type v l x hown b c hr hl
  refine ⟨g, cap, w', ?_, r⟩
  unfold execOp
  simp only [ho, resolve, invoke, builtin, Sem.run_bind, Sem.run_pure, Result.andThen_ok, List.map_toArray, List.map_cons, List.map_nil, hs, hy, hrun]

theorem wp_append61 {op : Oper} {a : Act} {w : World} {K : Act → World → Prop} {Q : Exit → Act → World → Prop} {d : Nat} (hd : op.dst = some d) (s y : Operand) (ho : op.op = .call { callee := .builtin .append, args := #[s, y], argTypes := #[59, 59] }) (v : Value) (l : List (Nat × (Nat → Nat))) (x : Nat × (Nat → Nat)) (b c : Nat)
    (hs : a.eval s = v) (hy : a.eval y = .slice (some ⟨b, 0, none⟩) 1 c) (hown : w.ownsRow 0 73 65 v l.length (l.flatMap wc)) (hr : w.rangeAt b 0 (wc x)) (hl : l.length < 1000000)
    (h : ∀ g cap w', w'.ownsRow 0 73 65 (.slice (some ⟨g, 0, none⟩) (l.length + 1) cap) (l ++ [x]).length ((l ++ [x]).flatMap wc) → w.grownBy w' v.ownBlock → (v.ownBlock = some g ∨ g = w.heap.size) → g < w'.heap.size → K (a.put (some d) (.slice (some ⟨g, 0, none⟩) (l.length + 1) cap)) w') : Oper.wp Try.prog op a w K Q := by
  obtain ⟨g, cap, w', hrun, h1, h2, h3, h4⟩ := exec_append61 s y ho v l x b c hs hy hown hr hl
  exact wp_run hd hrun (h g cap w' h1 h2 h3 h4)

/-- The disk with one more write that waits. -/
theorem push {w w' : World} {p k : Nat} {pv : Value} {M N : Dk} {n : Nat} {s : Nat → Nat} {g cap : Nat} (h : Ds w p k pv N) (hN : N = M.cnt) (hown : w'.ownsRow 0 73 65 (.slice (some ⟨g, 0, none⟩) (M.pend.length + 1) cap) (M.pend ++ [(n, s)]).length ((M.pend ++ [(n, s)]).flatMap wc))
    (hg : w.grownBy w' pv.ownBlock) (hat : pv.ownBlock = some g ∨ g = w.heap.size) (hn : n < M.n) (hc : M.calls + 1 < 1000000) (hl : M.pend.length ≤ M.calls) :
    Ds (w'.setCell ⟨p, 1, none⟩ (.slice (some ⟨g, 0, none⟩) (M.pend.length + 1) cap)) p k (.slice (some ⟨g, 0, none⟩) (M.pend.length + 1) cap) { M.cnt with pend := M.pend ++ [(n, s)] } ∧
    Step w (w'.setCell ⟨p, 1, none⟩ (.slice (some ⟨g, 0, none⟩) (M.pend.length + 1) cap)) (ft p k pv) (ft p k (.slice (some ⟨g, 0, none⟩) (M.pend.length + 1) cap)) ∧ w'.cell? ⟨p, 1, none⟩ = some pv ∧ w'.frozen? ⟨p, 1, none⟩ = false := by
  subst hN
  have hbp : w'.heap[p]? = w.heap[p]? := hg.block p h.plt (fun e => h.gp e.symm)
  have hbk : w'.heap[k]? = w.heap[k]? := hg.block k h.klt (fun e => h.gk e.symm)
  have hgp : g ≠ p := by
    rcases hat with e | e
    · exact fun e' => h.gp (e' ▸ e)
    · have := h.plt; omega
  have hgk : g ≠ k := by
    rcases hat with e | e
    · exact fun e' => h.gk (e' ▸ e)
    · have := h.klt; omega
  refine ⟨⟨?_, ?_, ?_, h.pk, ?_, ?_, h.n, ?_, hc, ?_, h.sb, h.fb⟩, ⟨hg.os, hg.tape, hg.output, ?_, ?_, ?_⟩, ?_, ?_⟩
  · have := hbp.trans h.blk
    simp [World.setCell, Array.getElem?_modify, this]
  · exact (h.row.of_block hbk).setOther (fun e => h.pk e.symm) _
  · exact ownsRow_of_block hown (fun b hb => Below.heap_setCell _ _ _ _ (by simp [Value.ownBlock] at hb; show b ≠ p; omega))
  · simpa [Value.ownBlock] using hgp
  · simpa [Value.ownBlock] using hgk
  · intro x hx
    rcases List.mem_append.1 hx with hx | hx
    · exact h.ats x hx
    · obtain rfl : x = (n, s) := by simpa using hx
      exact hn
  · show (M.pend ++ [(n, s)]).length ≤ M.calls + 1
    rw [List.length_append]
    exact Nat.add_le_add_right hl 1
  · simp [World.setCell]; exact hg.size
  · intro b hb hn
    rw [Below.heap_setCell _ _ _ _ (fun e => hn (.inl e))]
    exact hg.block b hb (fun e => hn (.inr (.inr e.symm)))
  · rintro b (e | e | e)
    · exact .inl (.inl e)
    · exact .inl (.inr (.inl e))
    · obtain rfl : g = b := by simpa [Value.ownBlock] using e
      rcases hat with e | e
      · exact .inl (.inr (.inr e))
      · exact .inr (by omega)
  · rw [World.cell?_of_block hbp]; exact h.cell 1
  · rw [World.frozen?_of_block hbp]; exact h.frozen 1

set_option maxRecDepth 100000 in
theorem write_ok (p k : Nat) (pv : Value) (M : Dk) (n : Nat) (s : Nat → Nat) (r : Int) (w : World) (h : Ds w p k pv M) (hd : M.down = false) (hn : n < M.n) (hc : M.calls + 1 < 1000000) (he : M.err = r) (hr : r ≠ 10) :
    Calls Try.prog 45 #[.pointer (some ⟨p, 0, none⟩), .int .i64 n, sv s] w fun e w' => e = .returned (.int .i64 r) ∧ ∃ pv', Ds w' p k pv' { M.cnt with pend := M.pend ++ [(n, s)] } ∧ Step w w' (ft p k pv) (ft p k pv') := by
  have C := Lib.hid fun w h => rfs_ok hd hn ▸ refusal_any p k pv M n w h
  have N := Lib.hid fun w h => he ▸ count_any p k pv M w h hc
  have H := Lib.hid h
  have HQ := Lib.hid hr
  clear h hd hr
  go_enter Try.func45, Try.ntmps45
  go_wp2_with (refine at_box38 _ rfl rfl _ rfl ?_)
  have S1 := Lib.hid ((Step.refl w (ft p k pv)).alloc (OS s))
  have H1 := Lib.hid (H.out.alloc (OS s))
  have R1 := Lib.hid (rangeOS w s)
  have hsz : w.heap.size < (w.alloc (OS s)).heap.size := by simp
  refine (C.out _ H1.out).mono ?_
  rintro e w1 ⟨rfl, rfl⟩
  generalize w.alloc (OS s) = w1 at *
  go_wp2_with fail
  refine (N.out _ H1.out).mono ?_
  rintro e w2 ⟨rfl, h2, ho⟩
  have H2 := Lib.hid h2
  have S2 := Lib.hid (S1.out.trans (ho.step (k := k) (pv := pv)))
  have R2 : Hid (w2.rangeAt w.heap.size 0 (sc s)) := fun j v hv => (World.cell?_of_block (ho.1.block _ hsz (fun e => by have := H.out.plt; have e' : w.heap.size = p := e; omega))).trans (R1.out j v hv)
  have hsz2 := ho.1.size
  clear h2 ho S1 H1 R1
  have hr := HQ.out
  go_wp2_with fail
  clear hr
  have c1 : w2.cell? ⟨p, 1, none⟩ = some pv := H2.out.cell 1
  have f1 := H2.out.frozen 1
  have hplt := H.out.plt
  have hglt : ∀ g, pv.ownBlock = some g → g < w.heap.size := fun g hg => H.out.glt hg
  have HF := Lib.hid (show M.pend.length < 1000000 by have := H.out.len; omega)
  generalize w.heap.size = Nb at *
  refine wp_region_held_drew (S := fun W => W.rangeAt Nb 0 (sc s)) (by kernel_rfl) R2.out (fun hS => ?_)
  refine take_at 0 19 (.pointer (some ⟨p, 0, none⟩)) rfl rfl (by kernel_rfl) (by kernel_rfl) (by kernel_rfl) (fun _ _ _ h => h) (Or.inl ⟨by rfl, fun W _ => by go_simp⟩) hS ?_
  simp only [Act.put, List.setIfInBounds_toArray, List.set_cons_zero, List.set_cons_succ]
  refine take_at 1 20 (.pointer (some ⟨p, 0, none⟩)) rfl rfl (by kernel_rfl) (by kernel_rfl) (by kernel_rfl) (fun _ _ _ h => h) (Or.inl ⟨by rfl, fun W _ => by go_simp⟩) hS ?_
  simp only [Act.put, List.setIfInBounds_toArray, List.set_cons_zero, List.set_cons_succ]
  refine take_at 2 21 (.pointer (some ⟨p, 0, none⟩)) rfl rfl (by kernel_rfl) (by kernel_rfl) (by kernel_rfl) (fun _ _ _ h => h) (Or.inl ⟨by rfl, fun W _ => by go_simp⟩) hS ?_
  simp only [Act.put, List.setIfInBounds_toArray, List.set_cons_zero, List.set_cons_succ]
  refine take_at 3 22 (.pointer (some ⟨p, 1, none⟩)) rfl rfl (by kernel_rfl) (by kernel_rfl) (by kernel_rfl) (fun _ _ _ h => h) (Or.inl ⟨by rfl, fun W _ => by go_simp⟩) hS ?_
  simp only [Act.put, List.setIfInBounds_toArray, List.set_cons_zero, List.set_cons_succ]
  refine take_at 5 24 (.int .i64 (n : Int)) rfl rfl (by kernel_rfl) (by kernel_rfl) (by kernel_rfl) (fun _ _ _ h => h) (Or.inl ⟨by rfl, fun W _ => by go_simp⟩) hS ?_
  simp only [Act.put, List.setIfInBounds_toArray, List.set_cons_zero, List.set_cons_succ]
  refine take_at 6 25 (sv s) rfl rfl (by kernel_rfl) (by kernel_rfl) (by kernel_rfl) (fun _ _ _ h => h) (Or.inl ⟨by rfl, fun W hW => exec_load38 _ _ _ _ rfl rfl hW⟩) hS ?_
  simp only [Act.put, List.setIfInBounds_toArray, List.set_cons_zero, List.set_cons_succ]
  refine take_at 7 26 (wv (n, s)) rfl rfl (by kernel_rfl) (by kernel_rfl) (by kernel_rfl) (fun _ _ _ h => h) (Or.inl ⟨by rfl, fun W hW => exec_build61 _ _ _ _ rfl rfl rfl⟩) hS ?_
  simp only [Act.put, List.setIfInBounds_toArray, List.set_cons_zero, List.set_cons_succ]
  have hW1 : Hid (w2.drew.rangeAt Nb 0 (sc s)) := hS
  have hW2 : Hid ((w2.drew.alloc (OW (n, s))).rangeAt Nb 0 (sc s)) := World.rangeAt_alloc hS _
  have c1' : (w2.drew.alloc (OW (n, s))).cell? ⟨p, 1, none⟩ = some pv := H2.out.drew.alloc (OW (n, s)) |>.cell 1
  have c1'' : (w2.alloc (OW (n, s))).cell? ⟨p, 1, none⟩ = some pv := H2.out.alloc (OW (n, s)) |>.cell 1
  have HA := Lib.hid (H2.out.drew.alloc (OW (n, s)))
  have RA := Lib.hid (rangeOW w2.drew (n, s))
  have hNb : ∀ g, pv.ownBlock = some g → g < Nb := by
    intro g hg
    have := hglt g hg
    omega
  have HNb := Lib.hid hNb
  have hszN : Nb < (w2.drew.alloc (OW (n, s))).heap.size := by have : w2.drew.heap.size = w2.heap.size := rfl; simp; omega
  have hpN : p < Nb := hplt
  have HC := Lib.hid (show M.calls + 1 < 1000000 from hc)
  have HLE := Lib.hid H.out.len
  clear hS hNb
  refine wpAnyH_ready (rs := [4, 8]) (by kernel_rfl) (by simp) ?_
  refine AllReadyH.cons rfl (fun K hK => ?_) (AllReadyH.cons rfl (fun K hK => ?_) AllReadyH.nil)
  · rw [if_pos (by rfl)]
    refine wp_run (d := 23) (v := pv) (w' := w2.drew) rfl (by go_simp) ?_
    simp only [Act.put, List.setIfInBounds_toArray, List.set_cons_zero, List.set_cons_succ]
    refine hK.out _ _ hW1.out (fun hS => ?_)
    clear hK K
    refine wpAnyH_ready (rs := [8]) (by kernel_rfl) (by simp) ?_
    refine AllReadyH.cons rfl (fun K hK => ?_) AllReadyH.nil
    rw [if_pos (by rfl)]
    refine wp_run (d := 27) rfl (exec_buildSlice54 _ (n, s) rfl rfl) ?_
    simp only [Act.put, List.setIfInBounds_toArray, List.set_cons_zero, List.set_cons_succ]
    refine hK.out _ _ hW2.out (fun hS => ?_)
    clear hK K
    refine wpAnyH_ready (rs := [9]) (by kernel_rfl) (by simp) ?_
    refine AllReadyH.cons rfl (fun K hK => ?_) AllReadyH.nil
    rw [if_pos (by rfl)]
    refine wp_append61 (d := 28) rfl (.tmp 23) (.tmp 27) rfl pv M.pend (n, s) w2.drew.heap.size 1 rfl rfl HA.out.own RA.out HF.out ?_
    intro g cap w3 hown hgrow hat hlt
    simp only [Act.put, List.setIfInBounds_toArray, List.set_cons_zero, List.set_cons_succ]
    have hS3 : w3.rangeAt Nb 0 (sc s) := fun j v hv => (World.cell?_of_block (hgrow.block _ hszN (fun e => by have := HNb.out Nb e.symm; omega))).trans (hW2.out j v hv)
    obtain ⟨D, T, c3, f3⟩ := push HA.out rfl hown hgrow hat hn HC.out HLE.out
    have HD := Lib.hid D
    have HT := Lib.hid T
    have hSp : Hid ((w3.setCell ⟨p, 1, none⟩ (.slice (some ⟨g, 0, none⟩) (M.pend.length + 1) cap)).rangeAt Nb 0 (sc s)) := fun j v hv => (World.cell?_setCell_other _ _ _ _ (by intro e; injection e with e; omega)).trans (hS3 j v hv)
    clear hown hgrow hat D T
    refine hK.out _ _ hS3 (fun hS => ?_)
    clear hK K
    refine take_at 10 29 (.pointer (some ⟨p, 0, none⟩)) rfl rfl (by kernel_rfl) (by kernel_rfl) (by kernel_rfl) (fun _ _ _ h => h) (Or.inl ⟨by rfl, fun W _ => by go_simp⟩) hS ?_
    simp only [Act.put, List.setIfInBounds_toArray, List.set_cons_zero, List.set_cons_succ]
    refine take_at 11 30 (.pointer (some ⟨p, 1, none⟩)) rfl rfl (by kernel_rfl) (by kernel_rfl) (by kernel_rfl) (fun _ _ _ h => h) (Or.inl ⟨by rfl, fun W _ => by go_simp⟩) hS ?_
    simp only [Act.put, List.setIfInBounds_toArray, List.set_cons_zero, List.set_cons_succ]
    refine wpAnyH_ready (rs := [12]) (by kernel_rfl) (by simp) ?_
    refine AllReadyH.cons rfl (fun K hK => ?_) AllReadyH.nil
    go_simp
    refine hK.out _ _ hSp.out (fun hS => ?_)
    clear hK K
    refine wpAnyH_done (by kernel_rfl) ?_ _
    clear hS c1 c1' c1'' c3 f3
    go_wp2_with fail
    go_ret
    exact ⟨rfl, _, HD.out, (S2.out.drew.alloc _).trans HT.out⟩
  · rw [if_pos (by rfl)]
    refine wp_run (d := 27) rfl (exec_buildSlice54 _ (n, s) rfl rfl) ?_
    simp only [Act.put, List.setIfInBounds_toArray, List.set_cons_zero, List.set_cons_succ]
    refine hK.out _ _ hW2.out (fun hS => ?_)
    clear hK K
    refine wpAnyH_ready (rs := [4]) (by kernel_rfl) (by simp) ?_
    refine AllReadyH.cons rfl (fun K hK => ?_) AllReadyH.nil
    rw [if_pos (by rfl)]
    refine wp_run (d := 23) (v := pv) (w' := w2.drew.alloc (OW (n, s))) rfl (by go_simp) ?_
    simp only [Act.put, List.setIfInBounds_toArray, List.set_cons_zero, List.set_cons_succ]
    refine hK.out _ _ hW2.out (fun hS => ?_)
    clear hK K
    refine wpAnyH_ready (rs := [9]) (by kernel_rfl) (by simp) ?_
    refine AllReadyH.cons rfl (fun K hK => ?_) AllReadyH.nil
    rw [if_pos (by rfl)]
    refine wp_append61 (d := 28) rfl (.tmp 23) (.tmp 27) rfl pv M.pend (n, s) w2.drew.heap.size 1 rfl rfl HA.out.own RA.out HF.out ?_
    intro g cap w3 hown hgrow hat hlt
    simp only [Act.put, List.setIfInBounds_toArray, List.set_cons_zero, List.set_cons_succ]
    have hS3 : w3.rangeAt Nb 0 (sc s) := fun j v hv => (World.cell?_of_block (hgrow.block _ hszN (fun e => by have := HNb.out Nb e.symm; omega))).trans (hW2.out j v hv)
    obtain ⟨D, T, c3, f3⟩ := push HA.out rfl hown hgrow hat hn HC.out HLE.out
    have HD := Lib.hid D
    have HT := Lib.hid T
    have hSp : Hid ((w3.setCell ⟨p, 1, none⟩ (.slice (some ⟨g, 0, none⟩) (M.pend.length + 1) cap)).rangeAt Nb 0 (sc s)) := fun j v hv => (World.cell?_setCell_other _ _ _ _ (by intro e; injection e with e; omega)).trans (hS3 j v hv)
    clear hown hgrow hat D T
    refine hK.out _ _ hS3 (fun hS => ?_)
    clear hK K
    refine take_at 10 29 (.pointer (some ⟨p, 0, none⟩)) rfl rfl (by kernel_rfl) (by kernel_rfl) (by kernel_rfl) (fun _ _ _ h => h) (Or.inl ⟨by rfl, fun W _ => by go_simp⟩) hS ?_
    simp only [Act.put, List.setIfInBounds_toArray, List.set_cons_zero, List.set_cons_succ]
    refine take_at 11 30 (.pointer (some ⟨p, 1, none⟩)) rfl rfl (by kernel_rfl) (by kernel_rfl) (by kernel_rfl) (fun _ _ _ h => h) (Or.inl ⟨by rfl, fun W _ => by go_simp⟩) hS ?_
    simp only [Act.put, List.setIfInBounds_toArray, List.set_cons_zero, List.set_cons_succ]
    refine wpAnyH_ready (rs := [12]) (by kernel_rfl) (by simp) ?_
    refine AllReadyH.cons rfl (fun K hK => ?_) AllReadyH.nil
    go_simp
    refine hK.out _ _ hSp.out (fun hS => ?_)
    clear hK K
    refine wpAnyH_done (by kernel_rfl) ?_ _
    clear hS c1 c1' c1'' c3 f3
    go_wp2_with fail
    go_ret
    exact ⟨rfl, _, HD.out, (S2.out.drew.alloc _).trans HT.out⟩
end Go.Proofs.Ytjkfgdeiciligaa
