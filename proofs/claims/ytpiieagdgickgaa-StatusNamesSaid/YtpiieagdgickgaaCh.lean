/-
  A choice in a block that may be written; the contracts of the statements' own choice, of status.Name and of status.Worth. Conditions: bytes are bytes.
-/
import Derived.Test.YtpiieagdgickgaaLof
import Derived.Laws.ResultCell
set_option linter.unusedSimpArgs false
set_option linter.unusedVariables false
namespace Go.Proofs.Ytpiieagdgickgaa
open Go.RowKit

theorem nine {k : Nat} (h : k < 9) : k = 0 ∨ k = 1 ∨ k = 2 ∨ k = 3 ∨ k = 4 ∨ k = 5 ∨ k = 6 ∨ k = 7 ∨ k = 8 := by omega
theorem cfl_one (x : Cf) : (cfl x).toArray.all (·.oneCell') = true := by simp [cfl, Value.oneCell']
/-- A choice in a block that may be written. -/
def Cb (w : World) (b : Nat) (x : Cf) : Prop := w.rangeAt b 0 (cfl x) ∧ w.there b 0 9
theorem Cb.cm {w : World} {b : Nat} {x : Cf} (h : Cb w b x) : Cm w b x := by
  have key : ∀ j v, (cfl x)[j]? = some v → w.cell? ⟨b, j, none⟩ = some v := fun j v hv => by
    have := h.1 j v hv
    rwa [Nat.zero_add] at this
  have h0 := key 0 _ rfl
  exact ⟨World.block_lt_of_cell? _ _ h0, h0, key 1 _ rfl, key 2 _ rfl, key 3 _ rfl, key 4 _ rfl, key 5 _ rfl, key 6 _ rfl, key 7 _ rfl, key 8 _ rfl⟩
theorem cb_box (w : World) (x : Cf) : Cb (w.alloc (Cfx x)) w.heap.size x := by
  have h : (w.alloc (Cfx x)).heap[w.heap.size]? = some (Cfx x) := heap_alloc_new w _
  have e : ∀ j, (w.alloc (Cfx x)).cell? ⟨w.heap.size, j, none⟩ = _ := fun j => cell_of_row _ _ _ _ _ _ h
  refine ⟨fun j v hv => ?_, fun j hj => ⟨?_, ?_⟩⟩
  · rw [e, Nat.zero_add, ← hv]
    simp [cfl]
  · rw [e, Nat.zero_add]
    rcases nine hj with rfl | rfl | rfl | rfl | rfl | rfl | rfl | rfl | rfl <;> rfl
  · unfold World.frozen?
    rw [h]
    simp [Cfx]
theorem Cb.put {w : World} {b : Nat} {x : Cf} (h : Cb w b x) (y : Cf) : Cb (w.setCells b 0 (cfl y)) b y :=
  ⟨World.rangeAt_setCells_same w b 0 (cfl y) h.2, World.there_setCells h.2 b 0 (cfl y)⟩
theorem below_put {B b : Nat} {w0 : World} (hb : B ≤ b) : ∀ (vs : List Value) (o : Nat) (w : World), Below B w0 w → Below B w0 (w.setCells b o vs)
  | [], _, _, h => h
  | v :: r, o, w, h => below_put hb r (o + 1) _ (h.setCell (by exact hb) v)
theorem results_cell {P : Program} {fn : Func} {p : Tmp} {ty : TypeId} (h : fn.results = #[.cell p ty]) (tmps : Array Value) (w : World) (x : Addr) (v : Value) (hp : tmps.getD p undef = .pointer (some x)) (hl : (loadVar ty x).run P w = .ok v w) :
    (results fn tmps).run P w = .ok v w := by
  have hp' : tmps[p]?.getD undef = .pointer (some x) := by simpa using hp
  simp [results, h, hp', asAddr, hl]
theorem loadv27 {w : World} {b : Nat} {x : Cf} (h : Cb w b x) : (loadVar 27 ⟨b, 0, none⟩).run Try.prog w = .ok (cfv x) w := run_loadVar_mid w b 0 27 (cfl x) _ h.1 Try.underlying27 rfl size27
theorem at_store27 {ops : Array Oper} {rest : List Oper} {o : Oper} {a : Act} {w : World} {Q : Exit → Act → World → Prop} (x y : Operand) (b : Nat) (p q : Cf) (H : Cb w b p) (hgd : o.guard = none) (ho : o.op = .store 27 x y) (hx : a.eval x = .pointer (some ⟨b, 0, none⟩)) (hy : a.eval y = cfv q)
    (h : ∀ w', Hid (Cb w' b q) → Hid (∀ B, B ≤ b → Below B w w') → wpList Try.prog ops Q rest (a.put o.dst undef) w') : wpList Try.prog ops Q (o :: rest) a w :=
  wpList_store_mid hgd 27 x y ho b 0 (cfl q).toArray hx hy H.2 size27 (cfl_one q) (h _ (H.put q) (fun _ hB => below_put hB _ _ _ (Below.refl _ _)))

/-- Nine bytes; the choice that they mean. -/
structure Hc where
  (a b c d e f g h i : Int)
structure Hc.Ok (y : Hc) : Prop where
  a : 0 ≤ y.a ∧ y.a < 256
  b : 0 ≤ y.b ∧ y.b < 256
  c : 0 ≤ y.c ∧ y.c < 256
  d : 0 ≤ y.d ∧ y.d < 256
  e : 0 ≤ y.e ∧ y.e < 256
  f : 0 ≤ y.f ∧ y.f < 256
  g : 0 ≤ y.g ∧ y.g < 256
  h : 0 ≤ y.h ∧ y.h < 256
  i : 0 ≤ y.i ∧ y.i < 256
def hv (y : Hc) : Value := .agg #[.int .u8 y.a, .int .u8 y.b, .int .u8 y.c, .int .u8 y.d, .int .u8 y.e, .int .u8 y.f, .int .u8 y.g, .int .u8 y.h, .int .u8 y.i]
def hl (y : Hc) : List Value := [.int .u8 y.a, .int .u8 y.b, .int .u8 y.c, .int .u8 y.d, .int .u8 y.e, .int .u8 y.f, .int .u8 y.g, .int .u8 y.h, .int .u8 y.i]
def Hcx (y : Hc) : Obj := .cells #[.int .u8 y.a, .int .u8 y.b, .int .u8 y.c, .int .u8 y.d, .int .u8 y.e, .int .u8 y.f, .int .u8 y.g, .int .u8 y.h, .int .u8 y.i] 23
def ch (y : Hc) : Cf := ⟨1 + y.a % 30, 1 + y.a % 30 + y.b % 60, 1 + y.c % 6, 1 + y.d % 20, 1 + y.e % 9, 1 + y.f % 6, y.g % 4, 1 + y.h % 40, y.i % 50⟩
set_option maxRecDepth 100000 in
set_option maxHeartbeats 2000000 in
theorem choice_any (y : Hc) (w : World) (h : y.Ok) : Calls Try.prog 10 #[hv y] w fun e w' => e = .returned (cfv (ch y)) ∧ Below w.heap.size w w' := by
  have P0 := Lib.hid (cb_box (w.alloc (Hcx y)) zf)
  have B0 := Lib.hid (((Below.refl w.heap.size w).alloc (Nat.le_refl _) (Hcx y)).alloc (by simp) (Cfx zf))
  rw [World.size_alloc] at P0
  obtain ⟨⟨a0, a1⟩, ⟨b0, b1⟩, ⟨c0, c1⟩, ⟨d0, d1⟩, ⟨e0, e1⟩, ⟨f0, f1⟩, ⟨g0, g1⟩, ⟨h0, h1⟩, ⟨i0, i1⟩⟩ := h
  unfold hv
  go_enter Try.func10, Try.ntmps10
  go_wp2_with (refine at_store27 _ _ _ zf (ch y) P0.out rfl rfl rfl rfl ?_; intro w2 P2 B2)
  refine bodyPost_ret (results_cell rfl _ _ _ _ rfl (loadv27 P2.out)) rfl ?_
  exact ⟨rfl, B0.out.trans (B2.out _ (by omega))⟩

/-- A status's word; what it is worth. -/
def nm (s : Int) : ByteArray := if s = 0 then ⟨#[102, 114, 101, 101]⟩ else if s = 1 then ⟨#[112, 108, 97, 110, 110, 101, 100]⟩ else if s = 2 then ⟨#[97, 99, 116, 105, 118, 101]⟩ else if s = 3 then ⟨#[115, 116, 97, 108, 101]⟩ else if s = 4 then ⟨#[114, 111, 103, 117, 101]⟩ else if s = 5 then ⟨#[99, 111, 110, 102, 108, 105, 99, 116]⟩ else ⟨#[45]⟩
def wo (s : Int) : Int := if s = 5 then 3 else if s = 4 then 2 else if s = 3 then 1 else 0
theorem ret_str {a b : ByteArray} (h : a = b) : Ending.returned (.string a) = .returned (.string b) := by rw [h]
theorem name_any (s : Int) (w : World) : Calls Try.prog 15 #[.int .i64 s] w fun e w' => e = .returned (.string (nm s)) ∧ w = w' := by
  by_cases h0 : s = 0
  · subst h0
    go_enter Try.func15, Try.ntmps15
    go_wp2
    go_ret
    exact ⟨rfl, rfl⟩
  by_cases h1 : s = 1
  · subst h1
    clear h0
    go_enter Try.func15, Try.ntmps15
    go_wp2
    go_ret
    exact ⟨rfl, rfl⟩
  by_cases h2 : s = 2
  · subst h2
    clear h0 h1
    go_enter Try.func15, Try.ntmps15
    go_wp2
    go_ret
    exact ⟨rfl, rfl⟩
  by_cases h3 : s = 3
  · subst h3
    clear h0 h1 h2
    go_enter Try.func15, Try.ntmps15
    go_wp2
    go_ret
    exact ⟨rfl, rfl⟩
  by_cases h4 : s = 4
  · subst h4
    clear h0 h1 h2 h3
    go_enter Try.func15, Try.ntmps15
    go_wp2
    go_ret
    exact ⟨rfl, rfl⟩
  by_cases h5 : s = 5
  · subst h5
    clear h0 h1 h2 h3 h4
    go_enter Try.func15, Try.ntmps15
    go_wp2
    go_ret
    exact ⟨rfl, rfl⟩
  have HN := Lib.hid (show nm s = ⟨#[45]⟩ by unfold nm; rw [if_neg h0, if_neg h1, if_neg h2, if_neg h3, if_neg h4, if_neg h5])
  have e0 : (s == 0) = false := by simpa using h0
  have e1 : (s == 1) = false := by simpa using h1
  have e2 : (s == 2) = false := by simpa using h2
  have e3 : (s == 3) = false := by simpa using h3
  have e4 : (s == 4) = false := by simpa using h4
  have e5 : (s == 5) = false := by simpa using h5
  clear h0 h1 h2 h3 h4 h5
  go_enter Try.func15, Try.ntmps15
  go_wp2
  go_ret
  exact ⟨ret_str HN.out.symm, rfl⟩
theorem worth_any (s : Int) (w : World) : Calls Try.prog 16 #[.int .i64 s] w fun e w' => e = .returned (.int .i64 (wo s)) ∧ w = w' := by
  by_cases h5 : s = 5
  · subst h5
    skip
    go_enter Try.func16, Try.ntmps16
    go_wp2
    go_ret
    exact ⟨rfl, rfl⟩
  by_cases h4 : s = 4
  · subst h4
    clear h5
    go_enter Try.func16, Try.ntmps16
    go_wp2
    go_ret
    exact ⟨rfl, rfl⟩
  by_cases h3 : s = 3
  · subst h3
    clear h5 h4
    go_enter Try.func16, Try.ntmps16
    go_wp2
    go_ret
    exact ⟨rfl, rfl⟩
  have HN := Lib.hid (show wo s = 0 by unfold wo; rw [if_neg h5, if_neg h4, if_neg h3])
  have e5 : (s == 5) = false := by simpa using h5
  have e4 : (s == 4) = false := by simpa using h4
  have e3 : (s == 3) = false := by simpa using h3
  clear h5 h4 h3
  go_enter Try.func16, Try.ntmps16
  go_wp2
  go_ret
  exact ⟨ret_int HN.out.symm, rfl⟩
end Go.Proofs.Ytpiieagdgickgaa
