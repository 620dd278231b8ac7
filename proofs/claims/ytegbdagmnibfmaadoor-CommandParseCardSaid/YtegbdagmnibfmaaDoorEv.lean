/-
  Events as plain data and in memory; variables of one's own, as lists of cells; errors that tell a place. No condition.
-/
import Derived.Test.YtegbdagmnibfmaaDoorMcAwake
import Derived.Test.YtegbdagmnibfmaaDoorAdBlk
import Derived.Test.YtegbdagmnibfmaaDoorHdMay
import Derived.Test.YtegbdagmnibfmaaDoorEw
import Derived.Deep.MidRow
import Derived.Deep.OwnRows
import Derived.Laws.ResultCell
import Derived.Laws.Rows
import Derived.RegionTactic
import Derived.OwnWalk
import Derived.BigGuard
set_option linter.unusedSimpArgs false
set_option linter.unusedVariables false
namespace Go.Proofs.YtegbdagmnibfmaaDoor
open Go.RowKit

theorem ret_bool {a b : Bool} (h : a = b) : Ending.returned (.bool a) = .returned (.bool b) := by rw [h]
theorem ret_int {k : IntKind} {a b : Int} (h : a = b) : Ending.returned (.int k a) = .returned (.int k b) := by rw [h]
theorem bdrewN {B : Nat} {a w : World} (h : Below B a w) (n : Nat) : Below B a (w.drewN n) := h.trans ⟨rfl, rfl, rfl, Nat.le_refl _, fun _ _ => rfl⟩

/-! ### Variables of one's own, as lists of cells -/
/-- A variable of one's own that may be written. -/
def Cx (w : World) (b : Nat) (L : List Value) : Prop := w.rangeAt b 0 L ∧ w.there b 0 L.length
theorem Cx.key {w : World} {b : Nat} {L : List Value} (h : Cx w b L) : ∀ j v, L[j]? = some v → w.cell? ⟨b, j, none⟩ = some v := fun j v hv => by
  have := h.1 j v hv
  rwa [Nat.zero_add] at this
theorem Cx.lt {w : World} {b : Nat} {u : Value} {L : List Value} (h : Cx w b (u :: L)) : b < w.heap.size := World.block_lt_of_cell? _ _ (h.key 0 _ rfl)
theorem Cx.fr {w : World} {b : Nat} {L : List Value} (h : Cx w b L) (j : Nat) (hj : j < L.length) : w.frozen? ⟨b, j, none⟩ = false := by
  have := (h.2 j hj).2
  rwa [Nat.zero_add] at this
theorem cx_box (w : World) (L : List Value) (cs : Array Value) (T : TypeId) (hc : cs.toList = L) : Cx (w.alloc (.cells cs T)) w.heap.size L := by
  subst hc
  have h : (w.alloc (.cells cs T)).heap[w.heap.size]? = some (.cells cs T) := heap_alloc_new w _
  have e : ∀ j, (w.alloc (.cells cs T)).cell? ⟨w.heap.size, j, none⟩ = _ := fun j => cell_of_row _ _ _ _ _ _ h
  refine ⟨fun j v hv => ?_, fun j hj => ⟨?_, ?_⟩⟩
  · rw [e, Nat.zero_add, ← hv]
    simp
  · rw [e, Nat.zero_add]
    simp at hj
    simp [hj]
  · unfold World.frozen?
    rw [h]
    simp
theorem Cx.keep {w w' : World} {b B : Nat} {L : List Value} (h : Cx w b L) (hb : Below B w w') (hB : b < B) : Cx w' b L :=
  ⟨fun j v hv => by rw [hb.cell (p := ⟨b, 0 + j, none⟩) hB]; exact h.1 j v hv, fun j hj => ⟨by rw [hb.cell (p := ⟨b, 0 + j, none⟩) hB]; exact (h.2 j hj).1, by rw [hb.frozen (p := ⟨b, 0 + j, none⟩) hB]; exact (h.2 j hj).2⟩⟩
theorem Cx.below {w w' : World} {b : Nat} {u : Value} {L : List Value} (h : Cx w b (u :: L)) (hb : Below w.heap.size w w') : Cx w' b (u :: L) := h.keep hb h.lt
theorem rangeAt_append {w : World} {b : Nat} : ∀ (p : List Value) {o : Nat} {q : List Value}, w.rangeAt b o (p ++ q) ↔ w.rangeAt b o p ∧ w.rangeAt b (o + p.length) q := by
  intro p o q
  constructor
  · intro h
    refine ⟨fun j v hv => h j v ?_, fun j v hv => ?_⟩
    · rw [List.getElem?_append_left (List.getElem?_eq_some_iff.1 hv).1]; exact hv
    · rw [Nat.add_assoc]
      refine h (p.length + j) v ?_
      rw [List.getElem?_append_right (by omega), Nat.add_sub_cancel_left]; exact hv
  · rintro ⟨h1, h2⟩ j v hv
    by_cases hj : j < p.length
    · rw [List.getElem?_append_left hj] at hv; exact h1 j v hv
    · rw [List.getElem?_append_right (by omega)] at hv
      have := h2 (j - p.length) v hv
      rwa [show o + p.length + (j - p.length) = o + j by omega] at this
theorem Cx.put {w : World} {b : Nat} {p old s : List Value} (vs : List Value) (h : Cx w b (p ++ (old ++ s))) (hl : vs.length = old.length) : Cx (w.setCells b p.length vs) b (p ++ (vs ++ s)) := by
  obtain ⟨h1, h2⟩ := h
  rw [rangeAt_append, rangeAt_append] at h1
  obtain ⟨h3, -, h5⟩ := h1
  rw [Nat.zero_add] at h5
  refine ⟨?_, ?_⟩
  · rw [rangeAt_append, rangeAt_append, Nat.zero_add]
    refine ⟨World.rangeAt_setCells_apart h3 b _ vs (.inr (.inl (by omega))), World.rangeAt_setCells_same w b _ vs fun j hj => ?_, ?_⟩
    · have := h2 (p.length + j) (by simp; omega)
      rwa [Nat.zero_add] at this
    · rw [hl]
      exact World.rangeAt_setCells_apart h5 b _ vs (.inr (.inr (by omega)))
  · have : (p ++ (vs ++ s)).length = (p ++ (old ++ s)).length := by simp [hl]
    rw [this]
    exact World.there_setCells h2 b _ vs
theorem Cx.sub {w : World} {b : Nat} {p q s : List Value} (h : Cx w b (p ++ (q ++ s))) : w.rangeAt b p.length q := by
  have h1 := h.1
  rw [rangeAt_append, rangeAt_append, Nat.zero_add] at h1
  exact h1.2.1
theorem below_put {B b : Nat} {w0 : World} (hb : B ≤ b) : ∀ (vs : List Value) (o : Nat) (w : World), Below B w0 w → Below B w0 (w.setCells b o vs)
  | [], _, _, h => h
  | v :: r, o, w, h => below_put hb r (o + 1) _ (h.setCell (by exact hb) v)
theorem setCells_other (b : Nat) : ∀ (us : List Value) (o : Nat) (w : World) (k : Nat), k ≠ b → (w.setCells b o us).heap[k]? = w.heap[k]?
  | [], _, _, _, _ => rfl
  | u :: r, o, w, k, h => (setCells_other b r (o + 1) _ k h).trans (heap_setCell_other w ⟨b, o, none⟩ k u h)
theorem cx_other {w w' : World} {b c : Nat} {L : List Value} (h : Cx w b L) (hk : ∀ k, k ≠ c → w'.heap[k]? = w.heap[k]?) (hne : b ≠ c) : Cx w' b L := by
  have e : ∀ j, w'.cell? ⟨b, j, none⟩ = w.cell? ⟨b, j, none⟩ := fun j => by unfold World.cell?; simp only [hk b hne]
  have f : ∀ j, w'.frozen? ⟨b, j, none⟩ = w.frozen? ⟨b, j, none⟩ := fun j => by unfold World.frozen?; simp only [hk b hne]
  exact ⟨fun j v hv => by rw [e]; exact h.1 j v hv, fun j hj => by rw [e, f]; exact h.2 j hj⟩
/-- A store of a struct, or of a part of one, into a variable of one's own. -/
theorem at_put {ops : Array Oper} {rest : List Oper} {o : Oper} {a : Act} {w : World} {Q : Exit → Act → World → Prop} (T : TypeId) (x y : Operand) (b : Nat) (p old vs s : List Value) (H : Cx w b (p ++ (old ++ s))) (hl : vs.length = old.length)
    (hsz : (Tryd.prog.info? T).map (·.size) = some vs.toArray.size) (h1 : vs.toArray.all (·.oneCell') = true) (hgd : o.guard = none) (ho : o.op = .store T x y) (hx : a.eval x = .pointer (some ⟨b, p.length, none⟩)) (hy : a.eval y = .agg vs.toArray)
    (h : ∀ w', Hid (Cx w' b (p ++ (vs ++ s))) → Hid (∀ B, B ≤ b → Below B w w') → Hid (∀ k, k ≠ b → w'.heap[k]? = w.heap[k]?) → wpList Tryd.prog ops Q rest (a.put o.dst undef) w') : wpList Tryd.prog ops Q (o :: rest) a w :=
  wpList_store_mid hgd T x y ho b p.length vs.toArray hx hy (fun j hj => by have := H.2 (p.length + j) (by simp at hj ⊢; omega); rwa [Nat.zero_add] at this) hsz h1 (h _ (H.put vs hl) (fun _ hB => below_put hB _ _ _ (Below.refl _ _)) (setCells_other b _ _ _))
/-- A load of a struct, or of a part of one. -/
theorem at_get {ops : Array Oper} {rest : List Oper} {o : Oper} {a : Act} {w : World} {Q : Exit → Act → World → Prop} (T : TypeId) (d : TypeDesc) (x : Operand) (b : Nat) (p q s : List Value) (H : Cx w b (p ++ (q ++ s)))
    (hd : Tryd.prog.underlying T = some d) (hr : d.isRow = true) (hsz : (Tryd.prog.info? T).map (·.size) = some q.length) (hgd : o.guard = none) (ho : o.op = .load T x) (hx : a.eval x = .pointer (some ⟨b, p.length, none⟩))
    (h : wpList Tryd.prog ops Q rest (a.put o.dst (.agg q.toArray)) w) : wpList Tryd.prog ops Q (o :: rest) a w :=
  wpList_load_mid hgd T x ho b p.length hx q d H.sub hd hr hsz h
theorem loadv {w : World} {b : Nat} {L : List Value} (T : TypeId) (d : TypeDesc) (h : Cx w b L) (hd : Tryd.prog.underlying T = some d) (hr : d.isRow = true) (hsz : (Tryd.prog.info? T).map (·.size) = some L.length) : (loadVar T ⟨b, 0, none⟩).run Tryd.prog w = .ok (.agg L.toArray) w :=
  run_loadVar_mid w b 0 T L d h.1 hd hr hsz

/-! ### Results with a struct in a cell -/
theorem results_cell {P : Program} {fn : Func} {p : Tmp} {ty : TypeId} (h : fn.results = #[.cell p ty]) (tmps : Array Value) (w : World) (x : Addr) (v : Value) (hp : tmps.getD p undef = .pointer (some x)) (hl : (loadVar ty x).run P w = .ok v w) :
    (results fn tmps).run P w = .ok v w := by
  have hp' : tmps[p]?.getD undef = .pointer (some x) := by simpa using hp
  simp [results, h, hp', asAddr, hl]
theorem results_cell2 {P : Program} {fn : Func} {p q : Tmp} {ty : TypeId} (h : fn.results = #[.cell p ty, .tmp q]) (tmps : Array Value) (w : World) (x : Addr) (v u : Value) (hp : tmps.getD p undef = .pointer (some x)) (hq : tmps.getD q undef = u) (hl : (loadVar ty x).run P w = .ok v w) :
    (results fn tmps).run P w = .ok (.tuple #[v, u]) w := by
  have hp' : tmps[p]?.getD undef = .pointer (some x) := by simpa using hp
  have hq' : tmps[q]?.getD undef = u := by simpa using hq
  simp [results, h, hp', hq', asAddr, hl, Sem.run_bind, Sem.run_pure, Result.andThen_ok]
theorem results_cell3 {P : Program} {fn : Func} {p q r : Tmp} {ty : TypeId} (h : fn.results = #[.cell p ty, .tmp q, .tmp r]) (tmps : Array Value) (w : World) (x : Addr) (v u z : Value) (hp : tmps.getD p undef = .pointer (some x)) (hq : tmps.getD q undef = u) (hr : tmps.getD r undef = z) (hl : (loadVar ty x).run P w = .ok v w) :
    (results fn tmps).run P w = .ok (.tuple #[v, u, z]) w := by
  have hp' : tmps[p]?.getD undef = .pointer (some x) := by simpa using hp
  have hq' : tmps[q]?.getD undef = u := by simpa using hq
  have hr' : tmps[r]?.getD undef = z := by simpa using hr
  simp [results, h, hp', hq', hr', asAddr, hl, Sem.run_bind, Sem.run_pure, Result.andThen_ok]

/-! ### Events -/
/-- What an event says, but of sightings: its kind, a holder (address, owner, station), a prefix. -/
structure Ev where
  k : Int
  a : Int
  o : ByteArray
  c0 : Int
  c1 : Int
  c2 : Int
  c3 : Int
  c4 : Int
  c5 : Int
  b : Int
  n : Int
def zev : Ev := ⟨0, 0, ⟨#[]⟩, 0, 0, 0, 0, 0, 0, 0, 0⟩
/-- A holder's cells, a prefix's, a sighting's. -/
def hll (x : Ev) : List Value := [.int .u32 x.a, .string x.o, .int .u8 x.c0, .int .u8 x.c1, .int .u8 x.c2, .int .u8 x.c3, .int .u8 x.c4, .int .u8 x.c5]
def zsl : List Value := [.int .i64 0, .int .u8 0, .int .u8 0, .int .u8 0, .int .u8 0, .int .u8 0, .int .u8 0, .int .i64 0]
def evl (x : Ev) : List Value := [.int .i64 x.k, .int .u32 x.a, .string x.o, .int .u8 x.c0, .int .u8 x.c1, .int .u8 x.c2, .int .u8 x.c3, .int .u8 x.c4, .int .u8 x.c5, .int .u32 x.b, .int .i64 x.n, .int .i64 0, .int .u8 0, .int .u8 0, .int .u8 0, .int .u8 0, .int .u8 0, .int .u8 0, .int .i64 0]
def evv (x : Ev) : Value := .agg #[.int .i64 x.k, .int .u32 x.a, .string x.o, .int .u8 x.c0, .int .u8 x.c1, .int .u8 x.c2, .int .u8 x.c3, .int .u8 x.c4, .int .u8 x.c5, .int .u32 x.b, .int .i64 x.n, .int .i64 0, .int .u8 0, .int .u8 0, .int .u8 0, .int .u8 0, .int .u8 0, .int .u8 0, .int .i64 0]
def Evx (x : Ev) : Obj := .cells #[.int .i64 x.k, .int .u32 x.a, .string x.o, .int .u8 x.c0, .int .u8 x.c1, .int .u8 x.c2, .int .u8 x.c3, .int .u8 x.c4, .int .u8 x.c5, .int .u32 x.b, .int .i64 x.n, .int .i64 0, .int .u8 0, .int .u8 0, .int .u8 0, .int .u8 0, .int .u8 0, .int .u8 0, .int .i64 0] 41
theorem size41 : (Tryd.prog.info? 41).map (·.size) = some 19 := by kernel_rfl
theorem size34 : (Tryd.prog.info? 34).map (·.size) = some 8 := by kernel_rfl
theorem size36 : (Tryd.prog.info? 36).map (·.size) = some 2 := by kernel_rfl
theorem size32 : (Tryd.prog.info? 32).map (·.size) = some 6 := by kernel_rfl
theorem evl_one (x : Ev) : (evl x).toArray.all (·.oneCell') = true := by simp [evl, Value.oneCell']
theorem ev_box (w : World) (x : Ev) : Cx (w.alloc (Evx x)) w.heap.size (evl x) := cx_box w _ _ _ rfl
theorem loadv41 {w : World} {b : Nat} {x : Ev} (h : Cx w b (evl x)) : (loadVar 41 ⟨b, 0, none⟩).run Tryd.prog w = .ok (evv x) w := loadv 41 _ h Tryd.underlying41 rfl size41
/-- A whole event is stored. -/
theorem at_store41 {ops : Array Oper} {rest : List Oper} {o : Oper} {a : Act} {w : World} {Q : Exit → Act → World → Prop} (x y : Operand) (b : Nat) (p q : Ev) (H : Cx w b (evl p)) (hgd : o.guard = none) (ho : o.op = .store 41 x y) (hx : a.eval x = .pointer (some ⟨b, 0, none⟩)) (hy : a.eval y = evv q)
    (h : ∀ w', Hid (Cx w' b (evl q)) → Hid (∀ B, B ≤ b → Below B w w') → Hid (∀ k, k ≠ b → w'.heap[k]? = w.heap[k]?) → wpList Tryd.prog ops Q rest (a.put o.dst undef) w') : wpList Tryd.prog ops Q (o :: rest) a w :=
  at_put 41 x y b [] (evl p) (evl q) [] (by simpa using H) rfl size41 (evl_one q) hgd ho hx hy (by simpa using h)
theorem at_load41 {ops : Array Oper} {rest : List Oper} {o : Oper} {a : Act} {w : World} {Q : Exit → Act → World → Prop} (x : Operand) (b : Nat) (p : Ev) (H : Cx w b (evl p)) (hgd : o.guard = none) (ho : o.op = .load 41 x) (hx : a.eval x = .pointer (some ⟨b, 0, none⟩))
    (h : wpList Tryd.prog ops Q rest (a.put o.dst (evv p)) w) : wpList Tryd.prog ops Q (o :: rest) a w :=
  at_get 41 _ x b [] (evl p) [] (by simpa using H) Tryd.underlying41 rfl size41 hgd ho hx h

/-! ### Errors that tell a place -/
/-- An error by its place (below 0: none) and its number (0: no error). -/
def Pe (w : World) (at_ n : Int) (v : Value) : Prop := (n = 0 ∧ v = .nilIface) ∨ (n ≠ 0 ∧ at_ < 0 ∧ v = eW n) ∨ (n ≠ 0 ∧ 0 ≤ at_ ∧ ∃ b, v = eF b ∧ w.cell? ⟨b, 0, none⟩ = some (.int .i64 at_) ∧ w.cell? ⟨b, 1, none⟩ = some (eN n))
theorem Pe.keep {w w' : World} {at_ n : Int} {v : Value} (h : Pe w at_ n v) (hb : Below w.heap.size w w') : Pe w' at_ n v := by
  rcases h with h | h | ⟨h1, h2, b, h3, h4, h5⟩
  · exact .inl h
  · exact .inr (.inl h)
  · refine .inr (.inr ⟨h1, h2, b, h3, ?_, ?_⟩)
    · rw [hb.cell (p := ⟨b, 0, none⟩) (World.block_lt_of_cell? _ _ h4)]; exact h4
    · rw [hb.cell (p := ⟨b, 1, none⟩) (World.block_lt_of_cell? _ _ h5)]; exact h5
theorem Pe.keepB {w w' : World} {at_ n : Int} {b B : Nat} (h : Pe w at_ n (eF b)) (hb : Below B w w') (hB : b < B) : Pe w' at_ n (eF b) := by
  rcases h with ⟨_, h⟩ | ⟨_, _, h⟩ | ⟨h1, h2, b', h3, h4, h5⟩
  · cases h
  · cases h
  · have e : b = b' := by simpa [eF] using h3
    subst e
    refine .inr (.inr ⟨h1, h2, b, rfl, ?_, ?_⟩)
    · rw [hb.cell (p := ⟨b, 0, none⟩) hB]; exact h4
    · rw [hb.cell (p := ⟨b, 1, none⟩) hB]; exact h5
theorem wrong_any (at_ n : Int) (w : World) : Calls Tryd.prog 22 #[.int .i64 at_, .int .i64 n] w fun e w' => e = .returned (eF w.heap.size) ∧ w' = w.alloc (.cells #[.int .i64 at_, eN n] 58) := by
  go_enter Tryd.func22, Tryd.ntmps22
  go_wp2_with fail
  go_ret
  exact ⟨rfl, rfl⟩
theorem wrong_pe (at_ n : Int) (w : World) (hn : n ≠ 0) (h0 : 0 ≤ at_) : Pe (w.alloc (.cells #[.int .i64 at_, eN n] 58)) at_ n (eF w.heap.size) :=
  .inr (.inr ⟨hn, h0, _, rfl, by simp, by simp [eN]⟩)
theorem wrongP (at_ n : Int) (w : World) (hn : n ≠ 0) (h0 : 0 ≤ at_) : Calls Tryd.prog 22 #[.int .i64 at_, .int .i64 n] w fun e w' => (∃ b, e = .returned (eF b) ∧ w.heap.size ≤ b ∧ b < w'.heap.size ∧ Pe w' at_ n (eF b)) ∧ Below w.heap.size w w' :=
  (wrong_any at_ n w).mono fun e w' ⟨h1, h2⟩ => by
    subst h2
    exact ⟨⟨_, h1, Nat.le_refl _, by simp, wrong_pe at_ n w hn h0⟩, (Below.refl _ w).alloc (Nat.le_refl _) _⟩
theorem Pe.other {w w' : World} {at_ n : Int} {b c : Nat} (h : Pe w at_ n (eF b)) (hk : ∀ k, k ≠ c → w'.heap[k]? = w.heap[k]?) (hne : b ≠ c) : Pe w' at_ n (eF b) := by
  have e : ∀ j, w'.cell? ⟨b, j, none⟩ = w.cell? ⟨b, j, none⟩ := fun j => by unfold World.cell?; simp only [hk b hne]
  rcases h with ⟨_, h⟩ | ⟨_, _, h⟩ | ⟨h1, h2, b', h3, h4, h5⟩
  · cases h
  · cases h
  · have e' : b = b' := by simpa [eF] using h3
    subst e'
    exact .inr (.inr ⟨h1, h2, b, rfl, by rw [e]; exact h4, by rw [e]; exact h5⟩)
theorem Cx.ltE {w : World} {b : Nat} {x : Ev} (h : Cx w b (evl x)) : b < w.heap.size := Cx.lt h
theorem Cx.belowE {w w' : World} {b : Nat} {x : Ev} (h : Cx w b (evl x)) (hb : Below w.heap.size w w') : Cx w' b (evl x) := h.keep hb h.ltE
/-- What Where finds of an error by place and number. -/
def whA (at_ n : Int) : Int := if n ≠ 0 ∧ 0 ≤ at_ then at_ else 0
theorem where_any (at_ n : Int) (v : Value) (w : World) (h : Pe w at_ n v) (hg : Et w) :
    Calls Tryd.prog 12 #[v] w fun e w' => e = .returned (.tuple #[.int .i64 (whA at_ n), .int .i64 n, .bool (decide (n ≠ 0 ∧ 0 ≤ at_))]) ∧ Below w.heap.size w w' := by
  rcases h with ⟨rfl, rfl⟩ | ⟨h1, h2, rfl⟩ | ⟨h1, h2, b, rfl, h4, h5⟩
  · have := where_nil w
    simpa [whA] using this
  · have := where_none n 1 (eW n) w .whole hg
    have e : ¬ (0 ≤ at_) := by omega
    simpa [whA, e] using this
  · have := where_fault n at_ 1 b w (.fault b 0 _ h5 .num) h4 hg
    simpa [whA, h1, h2] using this
/-- What a function answers that gives an event, and an error by its place and number. -/
def PPost (w : World) (r : Ev × Int × Int) (e : Ending) (w' : World) : Prop := (∃ ev, e = .returned (.tuple #[evv r.1, ev]) ∧ Pe w' r.2.1 r.2.2 ev) ∧ Below w.heap.size w w'
end Go.Proofs.YtegbdagmnibfmaaDoor
