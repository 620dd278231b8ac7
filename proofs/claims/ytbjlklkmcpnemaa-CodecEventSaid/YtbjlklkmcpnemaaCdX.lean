/-
  A variable of the call's own as any list of cells; what a call that is handed one leaves as it was. No condition.
-/
import Derived.Test.YtbjlklkmcpnemaaCdE
import Derived.Deep.MidRow
import Derived.Deep.OwnRows
import Derived.Laws.ResultCell
import Derived.OwnWalk
import Derived.BigGuard
set_option linter.unusedSimpArgs false
set_option linter.unusedVariables false
namespace Go.Proofs.Ytbjlklkmcpnemaa
open Go.RowKit

/-! ### Variables of one's own, as lists of cells -/
/-- A variable of one's own that may be written. -/
def Cx (w : World) (b : Nat) (L : List Value) : Prop := w.rangeAt b 0 L ∧ w.there b 0 L.length
theorem Cx.key {w : World} {b : Nat} {L : List Value} (h : Cx w b L) : ∀ j v, L[j]? = some v → w.cell? ⟨b, j, none⟩ = some v := fun j v hv => by
  have := h.1 j v hv
  rwa [Nat.zero_add] at this
theorem Cx.lt {w : World} {b : Nat} {u : Value} {L : List Value} (h : Cx w b (u :: L)) : b < w.heap.size := World.block_lt_of_cell? _ _ (h.key 0 _ rfl)
theorem Cx.fr {w : World} {b : Nat} {L : List Value} (h : Cx w b L) (j : Nat) (hj : j < L.length) : w.frozen? ⟨b, j, none⟩ = false := by
  have := (h.2 j hj).2
  rwa [Nat.zero_add] at this
theorem cx_box (w : World) (L : List Value) (cs : Array Value) (T : TypeId) (hc : cs.toList = L) : Cx (w.alloc (.cells cs T)) w.heap.size L := by
  subst hc
  have h : (w.alloc (.cells cs T)).heap[w.heap.size]? = some (.cells cs T) := heap_alloc_new w _
  have e : ∀ j, (w.alloc (.cells cs T)).cell? ⟨w.heap.size, j, none⟩ = _ := fun j => cell_of_row _ _ _ _ _ _ h
  refine ⟨fun j v hv => ?_, fun j hj => ⟨?_, ?_⟩⟩
  · rw [e, Nat.zero_add, ← hv]
    simp
  · rw [e, Nat.zero_add]
    simp at hj
    simp [hj]
  · unfold World.frozen?
    rw [h]
    simp
theorem Cx.keep {w w' : World} {b B : Nat} {L : List Value} (h : Cx w b L) (hb : Below B w w') (hB : b < B) : Cx w' b L :=
  ⟨fun j v hv => by rw [hb.cell (p := ⟨b, 0 + j, none⟩) hB]; exact h.1 j v hv, fun j hj => ⟨by rw [hb.cell (p := ⟨b, 0 + j, none⟩) hB]; exact (h.2 j hj).1, by rw [hb.frozen (p := ⟨b, 0 + j, none⟩) hB]; exact (h.2 j hj).2⟩⟩
theorem Cx.below {w w' : World} {b : Nat} {u : Value} {L : List Value} (h : Cx w b (u :: L)) (hb : Below w.heap.size w w') : Cx w' b (u :: L) := h.keep hb h.lt
theorem rangeAt_append {w : World} {b : Nat} : ∀ (p : List Value) {o : Nat} {q : List Value}, w.rangeAt b o (p ++ q) ↔ w.rangeAt b o p ∧ w.rangeAt b (o + p.length) q := by
  intro p o q
  constructor
  · intro h
    refine ⟨fun j v hv => h j v ?_, fun j v hv => ?_⟩
    · rw [List.getElem?_append_left (List.getElem?_eq_some_iff.1 hv).1]; exact hv
    · rw [Nat.add_assoc]
      refine h (p.length + j) v ?_
      rw [List.getElem?_append_right (by omega), Nat.add_sub_cancel_left]; exact hv
  · rintro ⟨h1, h2⟩ j v hv
    by_cases hj : j < p.length
    · rw [List.getElem?_append_left hj] at hv; exact h1 j v hv
    · rw [List.getElem?_append_right (by omega)] at hv
      have := h2 (j - p.length) v hv
      rwa [show o + p.length + (j - p.length) = o + j by omega] at this
theorem Cx.put {w : World} {b : Nat} {p old s : List Value} (vs : List Value) (h : Cx w b (p ++ (old ++ s))) (hl : vs.length = old.length) : Cx (w.setCells b p.length vs) b (p ++ (vs ++ s)) := by
  obtain ⟨h1, h2⟩ := h
  rw [rangeAt_append, rangeAt_append] at h1
  obtain ⟨h3, -, h5⟩ := h1
  rw [Nat.zero_add] at h5
  refine ⟨?_, ?_⟩
  · rw [rangeAt_append, rangeAt_append, Nat.zero_add]
    refine ⟨World.rangeAt_setCells_apart h3 b _ vs (.inr (.inl (by omega))), World.rangeAt_setCells_same w b _ vs fun j hj => ?_, ?_⟩
    · have := h2 (p.length + j) (by simp; omega)
      rwa [Nat.zero_add] at this
    · rw [hl]
      exact World.rangeAt_setCells_apart h5 b _ vs (.inr (.inr (by omega)))
  · have : (p ++ (vs ++ s)).length = (p ++ (old ++ s)).length := by simp [hl]
    rw [this]
    exact World.there_setCells h2 b _ vs
theorem Cx.sub {w : World} {b : Nat} {p q s : List Value} (h : Cx w b (p ++ (q ++ s))) : w.rangeAt b p.length q := by
  have h1 := h.1
  rw [rangeAt_append, rangeAt_append, Nat.zero_add] at h1
  exact h1.2.1
theorem cx_below {B b : Nat} {w0 : World} (hb : B ≤ b) : ∀ (vs : List Value) (o : Nat) (w : World), Below B w0 w → Below B w0 (w.setCells b o vs)
  | [], _, _, h => h
  | v :: r, o, w, h => cx_below hb r (o + 1) _ (h.setCell (by exact hb) v)
theorem setCells_other (b : Nat) : ∀ (us : List Value) (o : Nat) (w : World) (k : Nat), k ≠ b → (w.setCells b o us).heap[k]? = w.heap[k]?
  | [], _, _, _, _ => rfl
  | u :: r, o, w, k, h => (setCells_other b r (o + 1) _ k h).trans (heap_setCell_other w ⟨b, o, none⟩ k u h)
theorem cx_other {w w' : World} {b c : Nat} {L : List Value} (h : Cx w b L) (hk : ∀ k, k ≠ c → w'.heap[k]? = w.heap[k]?) (hne : b ≠ c) : Cx w' b L := by
  have e : ∀ j, w'.cell? ⟨b, j, none⟩ = w.cell? ⟨b, j, none⟩ := fun j => by unfold World.cell?; simp only [hk b hne]
  have f : ∀ j, w'.frozen? ⟨b, j, none⟩ = w.frozen? ⟨b, j, none⟩ := fun j => by unfold World.frozen?; simp only [hk b hne]
  exact ⟨fun j v hv => by rw [e]; exact h.1 j v hv, fun j hj => by rw [e, f]; exact h.2 j hj⟩
/-- A store of a struct, or of a part of one, into a variable of one's own. -/
theorem at_put {ops : Array Oper} {rest : List Oper} {o : Oper} {a : Act} {w : World} {Q : Exit → Act → World → Prop} (T : TypeId) (x y : Operand) (b : Nat) (p old vs s : List Value) (H : Cx w b (p ++ (old ++ s))) (hl : vs.length = old.length)
    (hsz : (Try.prog.info? T).map (·.size) = some vs.toArray.size) (h1 : vs.toArray.all (·.oneCell') = true) (hgd : o.guard = none) (ho : o.op = .store T x y) (hx : a.eval x = .pointer (some ⟨b, p.length, none⟩)) (hy : a.eval y = .agg vs.toArray)
    (h : ∀ w', Hid (Cx w' b (p ++ (vs ++ s))) → Hid (∀ B, B ≤ b → Below B w w') → Hid (∀ k, k ≠ b → w'.heap[k]? = w.heap[k]?) → wpList Try.prog ops Q rest (a.put o.dst undef) w') : wpList Try.prog ops Q (o :: rest) a w :=
  wpList_store_mid hgd T x y ho b p.length vs.toArray hx hy (fun j hj => by have := H.2 (p.length + j) (by simp at hj ⊢; omega); rwa [Nat.zero_add] at this) hsz h1 (h _ (H.put vs hl) (fun _ hB => cx_below hB _ _ _ (Below.refl _ _)) (setCells_other b _ _ _))
/-- A load of a struct, or of a part of one. -/
theorem at_get {ops : Array Oper} {rest : List Oper} {o : Oper} {a : Act} {w : World} {Q : Exit → Act → World → Prop} (T : TypeId) (d : TypeDesc) (x : Operand) (b : Nat) (p q s : List Value) (H : Cx w b (p ++ (q ++ s)))
    (hd : Try.prog.underlying T = some d) (hr : d.isRow = true) (hsz : (Try.prog.info? T).map (·.size) = some q.length) (hgd : o.guard = none) (ho : o.op = .load T x) (hx : a.eval x = .pointer (some ⟨b, p.length, none⟩))
    (h : wpList Try.prog ops Q rest (a.put o.dst (.agg q.toArray)) w) : wpList Try.prog ops Q (o :: rest) a w :=
  wpList_load_mid hgd T x ho b p.length hx q d H.sub hd hr hsz h
theorem loadv {w : World} {b : Nat} {L : List Value} (T : TypeId) (d : TypeDesc) (h : Cx w b L) (hd : Try.prog.underlying T = some d) (hr : d.isRow = true) (hsz : (Try.prog.info? T).map (·.size) = some L.length) : (loadVar T ⟨b, 0, none⟩).run Try.prog w = .ok (.agg L.toArray) w :=
  run_loadVar_mid w b 0 T L d h.1 hd hr hsz

/-! ### Results with a struct in a cell -/
theorem results_cell2 {P : Program} {fn : Func} {p q : Tmp} {ty : TypeId} (h : fn.results = #[.cell p ty, .tmp q]) (tmps : Array Value) (w : World) (x : Addr) (v u : Value) (hp : tmps.getD p undef = .pointer (some x)) (hq : tmps.getD q undef = u) (hl : (loadVar ty x).run P w = .ok v w) :
    (results fn tmps).run P w = .ok (.tuple #[v, u]) w := by
  have hp' : tmps[p]?.getD undef = .pointer (some x) := by simpa using hp
  have hq' : tmps[q]?.getD undef = u := by simpa using hq
  simp [results, h, hp', hq', asAddr, hl, Sem.run_bind, Sem.run_pure, Result.andThen_ok]
theorem results_cell3 {P : Program} {fn : Func} {p q r : Tmp} {ty : TypeId} (h : fn.results = #[.cell p ty, .tmp q, .tmp r]) (tmps : Array Value) (w : World) (x : Addr) (v u z : Value) (hp : tmps.getD p undef = .pointer (some x)) (hq : tmps.getD q undef = u) (hr : tmps.getD r undef = z) (hl : (loadVar ty x).run P w = .ok v w) :
    (results fn tmps).run P w = .ok (.tuple #[v, u, z]) w := by
  have hp' : tmps[p]?.getD undef = .pointer (some x) := by simpa using hp
  have hq' : tmps[q]?.getD undef = u := by simpa using hq
  have hr' : tmps[r]?.getD undef = z := by simpa using hr
  simp [results, h, hp', hq', hr', asAddr, hl, Sem.run_bind, Sem.run_pure, Result.andThen_ok]


theorem run_storeVar_sc (w : World) (b o : Nat) (ty : TypeId) (v : Value) (hv : v.cells = #[v]) (ht : w.there b o 1) (hi : (Try.prog.info? ty).map (·.size) = some 1) (h1 : v.oneCell' = true) :
    (storeVar ty ⟨b, o, none⟩ v).run Try.prog w = .ok () (w.setCells b o [v]) := by
  have := run_storeCells_cells (P := Try.prog) b o [v] 0 w (fun j hj => by simpa using (ht j (by simpa using hj)).1) (fun j hj => by simpa using (ht j (by simpa using hj)).2)
    (fun u hu => by simp at hu; rw [hu]; exact h1)
  cases hq : Try.prog.info? ty with
  | none => simp [hq] at hi
  | some i =>
    have hs : i.size = 1 := by simpa [hq] using hi
    simp only [Nat.add_zero] at this
    simp [storeVar, sizeOf, typeInfo, hq, hv, hs, this]
/-- A field of one cell is stored. -/
theorem at_put1 {ops : Array Oper} {rest : List Oper} {o : Oper} {a : Act} {w : World} {Q : Exit → Act → World → Prop} (T : TypeId) (x y : Operand) (b : Nat) (p : List Value) (u v : Value) (s : List Value) (H : Cx w b (p ++ (u :: s)))
    (hsz : (Try.prog.info? T).map (·.size) = some 1) (hv : v.cells = #[v]) (h1 : v.oneCell' = true) (hgd : o.guard = none) (ho : o.op = .store T x y) (hx : a.eval x = .pointer (some ⟨b, p.length, none⟩)) (hy : a.eval y = v)
    (h : ∀ w', Hid (Cx w' b (p ++ (v :: s))) → Hid (∀ B, B ≤ b → Below B w w') → Hid (∀ k, k ≠ b → w'.heap[k]? = w.heap[k]?) → wpList Try.prog ops Q rest (a.put o.dst undef) w') : wpList Try.prog ops Q (o :: rest) a w :=
  wpList_plain hgd fun _ hK => by
    unfold Oper.wp execOp
    simp only [ho, hx, hy, Instr.storeAt, Instr.sureAddr, Sem.run_bind, Sem.run_pure, Result.andThen_ok, run_storeVar_sc w b p.length T v hv (fun j hj => by have := H.2 (p.length + j) (by simp; omega); rwa [Nat.zero_add] at this) hsz h1]
    exact hK _ _ (h _ (Cx.put (old := [u]) [v] H rfl) (fun _ hB => cx_below hB _ _ _ (Below.refl _ _)) (setCells_other b _ _ _))
structure Ob (b : Nat) (w w' : World) : Prop where
  bel : Below b w w'
  oth : ∀ k, k ≠ b → k < w.heap.size → w'.heap[k]? = w.heap[k]?
theorem Ob.refl (b : Nat) (w : World) : Ob b w w := ⟨Below.refl _ _, fun _ _ _ => rfl⟩
theorem Ob.size {b : Nat} {w w' : World} (h : Ob b w w') : w.heap.size ≤ w'.heap.size := h.bel.size
theorem Ob.trans {b : Nat} {x y z : World} (h : Ob b x y) (k : Ob b y z) : Ob b x z := ⟨h.bel.trans k.bel, fun j h1 h2 => (k.oth j h1 (Nat.lt_of_lt_of_le h2 h.size)).trans (h.oth j h1 h2)⟩
theorem Ob.of {b : Nat} {w w' : World} (h : Below w.heap.size w w') (hb : b < w.heap.size) : Ob b w w' := ⟨h.mono (Nat.le_of_lt hb), fun k _ hk => h.block k hk⟩
theorem Ob.put {b : Nat} {w w' : World} (hb : ∀ B, B ≤ b → Below B w w') (hk : ∀ k, k ≠ b → w'.heap[k]? = w.heap[k]?) : Ob b w w' := ⟨hb _ (Nat.le_refl _), fun k h _ => hk k h⟩
/-- Of a variable that was made behind a world: the world is as it was. -/
theorem Ob.under {b B : Nat} {w w' : World} (h : Ob b w w') (hb : B ≤ b) : Below B w w' := h.bel.mono hb
theorem cell_ob {b : Nat} {w w' : World} (h : Ob b w w') {a : Addr} (ha : a.block ≠ b) (hl : a.block < w.heap.size) : w'.cell? a = w.cell? a := by
  unfold World.cell?
  rw [h.oth _ ha hl]
end Go.Proofs.Ytbjlklkmcpnemaa
