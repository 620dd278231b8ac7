/-
  A deed of layer 12's statements: its parts, how it lies in memory, which sighting it means. Conditions: as each theorem says.
-/
import Derived.Test.YtcnhagcmklgpkaaPut
import Derived.Test.YtcnhagcmklgpkaaRgt
set_option linter.unusedSimpArgs false
set_option linter.unusedVariables false
namespace Go.Proofs.Ytcnhagcmklgpkaa
open Go.RowKit

structure Ac where
  ad : Int
  fr : Int
  mc : Int
  la : Int
def Ac.ok (a : Ac) : Prop := (0 ≤ a.ad ∧ a.ad < 256) ∧ (0 ≤ a.fr ∧ a.fr < 256) ∧ (0 ≤ a.mc ∧ a.mc < 256) ∧ (0 ≤ a.la ∧ a.la < 256)
def ac (a : Ac) : List Value := [.int .u8 a.ad, .int .u8 a.fr, .int .u8 a.mc, .int .u8 a.la]
def av (a : Ac) : Value := .agg #[.int .u8 a.ad, .int .u8 a.fr, .int .u8 a.mc, .int .u8 a.la]
def Ax (a : Ac) : Obj := .cells #[.int .u8 a.ad, .int .u8 a.fr, .int .u8 a.mc, .int .u8 a.la] 28
theorem ac_length (a : Ac) : (ac a).length = 4 := rfl
/-- The deeds that a slice's value has, wherever they lie. -/
def Ra (w : World) (A : Option Addr) (xs : List Ac) : Prop :=
  xs.length ≤ 140737488355328 ∧ ∀ (q : Nat) (a : Ac), xs[q]? = some a → a.ok ∧ ∃ x, A = some x ∧ ∀ j v, (ac a)[j]? = some v → w.cell? (x.add (q * 4 + j)) = some v
theorem Ra.below {w w' : World} {A : Option Addr} {xs : List Ac} (h : Ra w A xs) (hb : Below w.heap.size w w') : Ra w' A xs := by
  refine ⟨h.1, fun q a hq => ?_⟩
  obtain ⟨hk, x, hx, hc⟩ := h.2 q a hq
  exact ⟨hk, x, hx, fun j v hv => (hb.cell (World.block_lt_of_cell? _ _ (hc j v hv))).trans (hc j v hv)⟩
theorem Ra.oks {w : World} {A : Option Addr} {xs : List Ac} (h : Ra w A xs) : ∀ a ∈ xs, a.ok := by
  intro a ha
  obtain ⟨q, hq, rfl⟩ := List.mem_iff_getElem.1 ha
  exact (h.2 q _ (List.getElem?_eq_getElem hq)).1
theorem size28 : (Try.prog.info? 28).map (·.size) = some 4 := by kernel_rfl
theorem load28 {w : World} {x : Addr} {a : Ac} (h : ∀ j v, (ac a)[j]? = some v → w.cell? (x.add j) = some v) : (Instr.loadAt 28 (.pointer (some x))).run Try.prog w = .ok (av a) w := by
  have hl : (loadCells x 4).run Try.prog w = .ok (ac a).toArray w := run_loadCells_list (P := Try.prog) w x (ac a) h
  obtain ⟨i, hi, hs⟩ := Option.map_eq_some_iff.1 size28
  have hg : (isAgg 28).run Try.prog w = .ok true w := by
    unfold isAgg
    simp only [Sem.run_bind, run_underlying Try.underlying28, Result.andThen_ok, Sem.run_pure]
  have hz : (Go.sizeOf 28).run Try.prog w = .ok 4 w := by
    rw [← hs]
    simp [Go.sizeOf, typeInfo, hi]
  simp only [Instr.loadAt, Instr.sureAddr, loadVar, Sem.run_bind, Sem.run_pure, Result.andThen_ok, hg, hz, hl, if_true]
  rfl
theorem at_load28 {ops : Array Oper} {rest : List Oper} {op : Oper} {a : Act} {w : World} {Q : Exit → Act → World → Prop} (x : Operand) (hgd : op.guard = none) (ho : op.op = .load 28 x) (y : Addr) (z : Ac) (hx : a.eval x = .pointer (some y)) (hr : ∀ j v, (ac z)[j]? = some v → w.cell? (y.add j) = some v)
    (h : wpList Try.prog ops Q rest (a.put op.dst (.agg #[.int .u8 z.ad, .int .u8 z.fr, .int .u8 z.mc, .int .u8 z.la])) w) : wpList Try.prog ops Q (op :: rest) a w :=
  wpList_plain hgd fun _ hK => by
    unfold Oper.wp execOp
    simp only [ho, hx, Sem.run_bind, Sem.run_pure, Result.andThen_ok, load28 hr]
    exact hK _ _ h

/-- One of a few addresses; of a few stations. -/
def near (n : Int) : Int := 167772160 + n % 64
theorem near_any (n : Int) (w : World) (h0 : 0 ≤ n) (h1 : n < 256) : Calls Try.prog 21 #[.int .u8 n] w fun e w' => e = .returned (.int .u32 (near n)) ∧ w' = w := by
  have H := Lib.hid (show near n = 167772160 + n % 64 from rfl)
  go_enter Try.func21, Try.ntmps21
  go_wp2_with fail
  go_ret
  exact ⟨by rw [H.out]; rfl, rfl⟩
theorem near_in (n : Int) : 0 ≤ near n ∧ near n < 4294967296 := by unfold near; omega
def st0 (n : Int) : Int := if n < 128 then 2 else 0
def st5 (n : Int) : Int := if n < 128 then 1 + n % 3 else 0
set_option maxHeartbeats 1000000 in
theorem station_any (n : Int) (w : World) (h0 : 0 ≤ n) (h1 : n < 256) : Calls Try.prog 22 #[.int .u8 n] w fun e w' => e = .returned (.agg #[.int .u8 (st0 n), .int .u8 0, .int .u8 0, .int .u8 0, .int .u8 0, .int .u8 (st5 n)]) ∧ Below w.heap.size w w' := by
  by_cases h : n < 128
  · have H := Lib.hid (show st0 n = 2 ∧ st5 n = 1 + n % 3 by simp [st0, st5, h])
    rw [H.out.1, H.out.2]
    go_enter Try.func22, Try.ntmps22
    go_wp2_with fail
    exact bodyPost_ret (v := .agg #[.int .u8 2, .int .u8 0, .int .u8 0, .int .u8 0, .int .u8 0, .int .u8 (1 + n % 3)]) (by simp [results, Try.results22, go_sem]) rfl ⟨rfl, (Below.refl _ w).alloc (Nat.le_refl _) _⟩
  · have H := Lib.hid (show st0 n = 0 ∧ st5 n = 0 by simp [st0, st5, h])
    rw [H.out.1, H.out.2]
    go_enter Try.func22, Try.ntmps22
    go_wp2_with fail
    exact bodyPost_ret (v := .agg #[.int .u8 0, .int .u8 0, .int .u8 0, .int .u8 0, .int .u8 0, .int .u8 0]) (by simp [results, Try.results22, go_sem]) rfl ⟨rfl, (Below.refl _ w).alloc (Nat.le_refl _) _⟩
/-- The sighting of a deed, at a tick. -/
def sgt (a : Ac) (t : Int) : Sg := ⟨a.fr % 4, st0 a.mc, 0, 0, 0, 0, st5 a.mc, t⟩
theorem sgt_src (a : Ac) (t : Int) : isrc (sgt a t).f = true := decide_eq_true (by show 0 ≤ a.fr % 4 ∧ a.fr % 4 < 4; omega)

theorem ac_box (w : World) (a : Ac) : (w.alloc (Ax a)).cell? ⟨w.heap.size, 0, none⟩ = some (.int .u8 a.ad) ∧ (w.alloc (Ax a)).cell? ⟨w.heap.size, 1, none⟩ = some (.int .u8 a.fr) ∧ (w.alloc (Ax a)).cell? ⟨w.heap.size, 2, none⟩ = some (.int .u8 a.mc) ∧ (w.alloc (Ax a)).cell? ⟨w.heap.size, 3, none⟩ = some (.int .u8 a.la) := by
  simp [Ax]
/-- A variable with a deed. -/
structure Ab (W : World) (b : Nat) (a : Ac) : Prop where
  lt : b < W.heap.size
  c0 : W.cell? ⟨b, 0, none⟩ = some (.int .u8 a.ad)
  c1 : W.cell? ⟨b, 1, none⟩ = some (.int .u8 a.fr)
  c2 : W.cell? ⟨b, 2, none⟩ = some (.int .u8 a.mc)
  c3 : W.cell? ⟨b, 3, none⟩ = some (.int .u8 a.la)
theorem ab_box (w : World) (a : Ac) : Ab (w.alloc (Ax a)) w.heap.size a := by
  obtain ⟨h0, h1, h2, h3⟩ := ac_box w a
  exact ⟨by simp, h0, h1, h2, h3⟩
theorem Ab.below {W W' : World} {b : Nat} {a : Ac} (h : Ab W b a) (hb : Below W.heap.size W W') : Ab W' b a :=
  ⟨Nat.lt_of_lt_of_le h.lt hb.size, by rw [hb.cell (p := ⟨b, 0, none⟩) h.lt]; exact h.c0, by rw [hb.cell (p := ⟨b, 1, none⟩) h.lt]; exact h.c1, by rw [hb.cell (p := ⟨b, 2, none⟩) h.lt]; exact h.c2, by rw [hb.cell (p := ⟨b, 3, none⟩) h.lt]; exact h.c3⟩
theorem Ab.at {W : World} {b : Nat} {a : Ac} (h : Ab W b a) : ∀ j v, (ac a)[j]? = some v → W.cell? ((⟨b, 0, none⟩ : Addr).add j) = some v := by
  intro j v hv
  rw [Addr.add_mid, Nat.zero_add]
  match j, hv with
  | 0, hv => simp [ac] at hv; subst hv; exact h.c0
  | 1, hv => simp [ac] at hv; subst hv; exact h.c1
  | 2, hv => simp [ac] at hv; subst hv; exact h.c2
  | 3, hv => simp [ac] at hv; subst hv; exact h.c3
  | j + 4, hv => simp [ac] at hv
theorem calls_fx {f : FuncId} {args : Array Value} {W : World} {v : Value} {Φ : List (Value → World → Prop)} {i : Nat} (h : Calls Try.prog f args W fun e w' => e = .returned v ∧ Below W.heap.size W w') (hi : fAt Φ i = fx v) : Calls Try.prog f args W fun e w' => ∃ v, e = .returned v ∧ Below W.heap.size W w' ∧ fAt Φ i v w' := by
  rw [hi]; exact h.mono fun e w' ⟨h1, h2⟩ => ⟨v, h1, h2, rfl⟩
theorem calls_fx' {f : FuncId} {args : Array Value} {W : World} {v : Value} {Φ : List (Value → World → Prop)} {i : Nat} (h : Calls Try.prog f args W fun e w' => e = .returned v ∧ w' = W) (hi : fAt Φ i = fx v) : Calls Try.prog f args W fun e w' => ∃ v, e = .returned v ∧ Below W.heap.size W w' ∧ fAt Φ i v w' := by
  rw [hi]; exact h.mono fun e w' ⟨h1, h2⟩ => ⟨v, h1, h2 ▸ Below.refl _ _, rfl⟩
/-- A variable that has no sighting yet. -/
structure Zb (W : World) (b : Nat) : Prop where
  lt : b < W.heap.size
  c0 : W.cell? ⟨b, 0, none⟩ = some (.int .i64 0)
  c1 : W.cell? ⟨b, 1, none⟩ = some (.int .u8 0)
  c2 : W.cell? ⟨b, 2, none⟩ = some (.int .u8 0)
  c3 : W.cell? ⟨b, 3, none⟩ = some (.int .u8 0)
  c4 : W.cell? ⟨b, 4, none⟩ = some (.int .u8 0)
  c5 : W.cell? ⟨b, 5, none⟩ = some (.int .u8 0)
  c6 : W.cell? ⟨b, 6, none⟩ = some (.int .u8 0)
  c7 : W.cell? ⟨b, 7, none⟩ = some (.int .i64 0)
  fr : ∀ k, W.frozen? ⟨b, k, none⟩ = false
theorem Zb.below {W W' : World} {b : Nat} (h : Zb W b) (hb : Below W.heap.size W W') : Zb W' b :=
  ⟨Nat.lt_of_lt_of_le h.lt hb.size, by rw [hb.cell (p := ⟨b, 0, none⟩) h.lt]; exact h.c0, by rw [hb.cell (p := ⟨b, 1, none⟩) h.lt]; exact h.c1, by rw [hb.cell (p := ⟨b, 2, none⟩) h.lt]; exact h.c2, by rw [hb.cell (p := ⟨b, 3, none⟩) h.lt]; exact h.c3,
    by rw [hb.cell (p := ⟨b, 4, none⟩) h.lt]; exact h.c4, by rw [hb.cell (p := ⟨b, 5, none⟩) h.lt]; exact h.c5, by rw [hb.cell (p := ⟨b, 6, none⟩) h.lt]; exact h.c6, by rw [hb.cell (p := ⟨b, 7, none⟩) h.lt]; exact h.c7, fun k => by rw [hb.frozen (p := ⟨b, k, none⟩) h.lt]; exact h.fr k⟩
theorem set8h {B : Nat} {w w1 : World} {b : Nat} (h : Below B w w1) (hb : B ≤ b) (v0 v1 v2 v3 v4 v5 v6 v7 : Value) :
    Below B w ((((((((w1.setCell ⟨b, 0, none⟩ v0).setCell ⟨b, 1, none⟩ v1).setCell ⟨b, 2, none⟩ v2).setCell ⟨b, 3, none⟩ v3).setCell ⟨b, 4, none⟩ v4).setCell ⟨b, 5, none⟩ v5).setCell ⟨b, 6, none⟩ v6).setCell ⟨b, 7, none⟩ v7) :=
  (((((((h.setCell hb v0).setCell hb v1).setCell hb v2).setCell hb v3).setCell hb v4).setCell hb v5).setCell hb v6).setCell hb v7
def zS : Obj := .cells #[.int .i64 0, .int .u8 0, .int .u8 0, .int .u8 0, .int .u8 0, .int .u8 0, .int .u8 0, .int .i64 0] 35
theorem zb_box (w : World) : Zb (w.alloc zS) w.heap.size := ⟨by simp, by simp [zS], by simp [zS], by simp [zS], by simp [zS], by simp [zS], by simp [zS], by simp [zS], by simp [zS], fun k => by simp [zS]⟩

set_option maxRecDepth 100000 in
set_option maxHeartbeats 4000000 in
theorem sight_any (a : Ac) (t : Int) (w : World) (h : a.ok) : Calls Try.prog 10 #[av a, .int .i64 t] w fun e w' => e = .returned (sv (sgt a t)) ∧ Below w.heap.size w w' := by
  obtain ⟨q0, q1, q2, q3⟩ := a
  obtain ⟨⟨h00, h01⟩, ⟨h10, h11⟩, ⟨h20, h21⟩, ⟨h30, h31⟩⟩ := h
  dsimp only at h00 h01 h10 h11 h20 h21 h30 h31
  have HST := Lib.hid fun W => station_any q2 W h20 h21
  have HSG := Lib.hid (show sgt ⟨q0, q1, q2, q3⟩ t = ⟨q1 % 4, st0 q2, 0, 0, 0, 0, st5 q2, t⟩ from rfl)
  obtain ⟨r, hr⟩ : ∃ r, q1 % 4 = r := ⟨_, rfl⟩
  rw [hr] at HSG
  have HR1 := Lib.hid (show q1.tmod 4 = r by rw [Int.tmod_eq_emod_of_nonneg h10]; exact hr)
  have HR2 := Lib.hid (show IntKind.u8.wrap r = r ∧ IntKind.i64.wrap r = r by constructor <;> (simp [IntKind.wrap, IntKind.bits, IntKind.signed]; try omega))
  have HZ := Lib.hid (zb_box (w.alloc (Ax ⟨q0, q1, q2, q3⟩)))
  have HBX0 := ab_box w ⟨q0, q1, q2, q3⟩
  have HA0 : Below w.heap.size w (w.alloc (Ax ⟨q0, q1, q2, q3⟩)) := (Below.refl _ w).alloc (Nat.le_refl _) _
  have HA1 : Below (w.alloc (Ax ⟨q0, q1, q2, q3⟩)).heap.size (w.alloc (Ax ⟨q0, q1, q2, q3⟩)) ((w.alloc (Ax ⟨q0, q1, q2, q3⟩)).alloc zS) := (Below.refl _ _).alloc (Nat.le_refl _) _
  have HBX := Lib.hid (HBX0.below HA1)
  have HA := Lib.hid (HA0.trans (HA1.mono HA0.size))
  rw [HSG.out]
  generalize st0 q2 = S0 at *
  generalize st5 q2 = S5 at *
  simp only [Ax, zS] at HBX HA HZ
  rw [show (w.alloc (.cells #[.int .u8 q0, .int .u8 q1, .int .u8 q2, .int .u8 q3] 28)).heap.size = w.heap.size + 1 by simp] at HZ
  simp only [av, sv]
  clear HBX0 HA0 HA1 HSG hr
  go_enter Try.func10, Try.ntmps10
  go_wp2_with fail
  refine wp_region_below_end (by simp) [fx (.pointer (some ⟨w.heap.size, 1, none⟩)), fx (.int .u8 q1), fx (.int .u8 r), fx (.int .i64 r), fx (.pointer (some ⟨w.heap.size, 2, none⟩)), fx (.int .u8 q2), fx (.agg #[.int .u8 S0, .int .u8 0, .int .u8 0, .int .u8 0, .int .u8 0, .int .u8 S5]), fx (.int .i64 t), fx (.agg #[.int .i64 r, .int .u8 S0, .int .u8 0, .int .u8 0, .int .u8 0, .int .u8 0, .int .u8 S5, .int .i64 t])]
    (by kernel_rfl) (by kernel_rfl) (by kernel_rfl) (by kernel_rfl) ?_ ?_ ?_
  · simp only [List.mem_cons, List.not_mem_nil, or_false]
    rintro φ (rfl | rfl | rfl | rfl | rfl | rfl | rfl | rfl | rfl)
    all_goals first | exact stable_fx _ | exact stable_fr _ _
  · refine OgSteps.cons ?_ (OgSteps.cons ?_ (OgSteps.cons ?_ (OgSteps.cons ?_ (OgSteps.cons ?_ (OgSteps.cons ?_ (OgSteps.cons ?_ (OgSteps.cons ?_ (OgSteps.cons ?_ (OgSteps.nil)))))))))
    · refine OgStep.pure ?_ ?_
      · rfl
      intro u W hS hp
      refine ⟨.pointer (some ⟨w.heap.size, 1, none⟩), ?_, rfl⟩
      simp only [ogMk, Act.put, List.setIfInBounds_toArray, List.set_cons_zero, List.set_cons_succ, Nat.zero_add, Nat.reduceAdd]
      simp [execOp, Act.eval, go_sem]
    · refine OgStep.pure ?_ ?_
      · rfl
      intro u W hS hp
      have h0 : u 0 = .pointer (some ⟨w.heap.size, 1, none⟩) := hp ⟨0, .data⟩ (by simp) rfl
      have X := HBX.out.below hS
      have R := X.c1
      refine ⟨.int .u8 q1, ?_, rfl⟩
      simp only [ogMk, Act.put, List.setIfInBounds_toArray, List.set_cons_zero, List.set_cons_succ, Nat.zero_add, Nat.reduceAdd]
      simp [execOp, Act.eval, go_sem, h0, R]
    · refine OgStep.pure ?_ ?_
      · rfl
      intro u W hS hp
      have h1 : u 1 = .int .u8 q1 := hp ⟨1, .data⟩ (by simp) rfl
      have R := HR1.out
      have Q := HR2.out.1
      refine ⟨.int .u8 r, ?_, rfl⟩
      simp only [ogMk, Act.put, List.setIfInBounds_toArray, List.set_cons_zero, List.set_cons_succ, Nat.zero_add, Nat.reduceAdd]
      simp [execOp, Act.eval, go_sem, h1, R, Q]
    · refine OgStep.pure ?_ ?_
      · rfl
      intro u W hS hp
      have h2 : u 2 = .int .u8 r := hp ⟨2, .data⟩ (by simp) rfl
      have R := HR2.out.2
      refine ⟨.int .i64 r, ?_, rfl⟩
      simp only [ogMk, Act.put, List.setIfInBounds_toArray, List.set_cons_zero, List.set_cons_succ, Nat.zero_add, Nat.reduceAdd]
      simp [execOp, Act.eval, go_sem, h2, R]
    · refine OgStep.pure ?_ ?_
      · rfl
      intro u W hS hp
      refine ⟨.pointer (some ⟨w.heap.size, 2, none⟩), ?_, rfl⟩
      simp only [ogMk, Act.put, List.setIfInBounds_toArray, List.set_cons_zero, List.set_cons_succ, Nat.zero_add, Nat.reduceAdd]
      simp [execOp, Act.eval, go_sem]
    · refine OgStep.pure ?_ ?_
      · rfl
      intro u W hS hp
      have h4 : u 4 = .pointer (some ⟨w.heap.size, 2, none⟩) := hp ⟨4, .data⟩ (by simp) rfl
      have X := HBX.out.below hS
      have R := X.c2
      refine ⟨.int .u8 q2, ?_, rfl⟩
      simp only [ogMk, Act.put, List.setIfInBounds_toArray, List.set_cons_zero, List.set_cons_succ, Nat.zero_add, Nat.reduceAdd]
      simp [execOp, Act.eval, go_sem, h4, R]
    · refine OgStep.calls ?_ ?_
      · rfl
      intro u W hS hp
      have h5 : u 5 = .int .u8 q2 := hp ⟨5, .data⟩ (by simp) rfl
      refine ⟨22, #[.int .u8 q2], ?_, calls_fx (HST.out W) rfl⟩
      simp only [ogMk, Act.put, List.setIfInBounds_toArray, List.set_cons_zero, List.set_cons_succ, Nat.zero_add, Nat.reduceAdd]
      simp [execOp, Act.eval, go_sem, h5]
    · refine OgStep.pure ?_ ?_
      · rfl
      intro u W hS hp
      refine ⟨.int .i64 t, ?_, rfl⟩
      simp only [ogMk, Act.put, List.setIfInBounds_toArray, List.set_cons_zero, List.set_cons_succ, Nat.zero_add, Nat.reduceAdd]
      simp [execOp, Act.eval, go_sem]
    · refine OgStep.pure ?_ ?_
      · rfl
      intro u W hS hp
      have h3 : u 3 = .int .i64 r := hp ⟨3, .data⟩ (by simp) rfl
      have h6 : u 6 = .agg #[.int .u8 S0, .int .u8 0, .int .u8 0, .int .u8 0, .int .u8 0, .int .u8 S5] := hp ⟨6, .data⟩ (by simp) rfl
      have h7 : u 7 = .int .i64 t := hp ⟨7, .data⟩ (by simp) rfl
      refine ⟨.agg #[.int .i64 r, .int .u8 S0, .int .u8 0, .int .u8 0, .int .u8 0, .int .u8 0, .int .u8 S5, .int .i64 t], ?_, rfl⟩
      simp only [ogMk, Act.put, List.setIfInBounds_toArray, List.set_cons_zero, List.set_cons_succ, Nat.zero_add, Nat.reduceAdd]
      simp [execOp, Act.eval, go_sem, h3, h6, h7]
  · intro u W hS hF
    have hF' := hF
    have e0 : u 0 = .pointer (some ⟨w.heap.size, 1, none⟩) := hF 0 (by decide)
    have e1 : u 1 = .int .u8 q1 := hF 1 (by decide)
    have e2 : u 2 = .int .u8 r := hF 2 (by decide)
    have e3 : u 3 = .int .i64 r := hF 3 (by decide)
    have e4 : u 4 = .pointer (some ⟨w.heap.size, 2, none⟩) := hF 4 (by decide)
    have e5 : u 5 = .int .u8 q2 := hF 5 (by decide)
    have e6 : u 6 = .agg #[.int .u8 S0, .int .u8 0, .int .u8 0, .int .u8 0, .int .u8 0, .int .u8 S5] := hF 6 (by decide)
    have e7 : u 7 = .int .i64 t := hF 7 (by decide)
    have e8 : u 8 = .agg #[.int .i64 r, .int .u8 S0, .int .u8 0, .int .u8 0, .int .u8 0, .int .u8 0, .int .u8 S5, .int .i64 t] := hF 8 (by decide)
    simp only [ogMk, Act.put, List.setIfInBounds_toArray, List.set_cons_zero, List.set_cons_succ, Nat.zero_add, Nat.reduceAdd]
    rw [e0, e1, e2, e3, e4, e5, e6, e7, e8]
    clear e0 e1 e2 e3 e4 e5 e6 e7 e8 hF
    obtain ⟨-, d0, d1, d2, d3, d4, d5, d6, d7, df⟩ := HZ.out.below hS
    have HW := Lib.hid (HA.out.trans (hS.mono HA.out.size))
    have HL := Lib.hid (show w.heap.size ≤ w.heap.size + 1 by omega)
    clear hF' hS HST HR1 HR2 HZ HBX HA
    go_wp2_with fail
    exact bodyPost_ret (v := .agg #[.int .i64 r, .int .u8 S0, .int .u8 0, .int .u8 0, .int .u8 0, .int .u8 0, .int .u8 S5, .int .i64 t]) (by simp [results, Try.results10, go_sem, d0, d1, d2, d3, d4, d5, d6, d7]) rfl ⟨rfl, set8h HW.out HL.out _ _ _ _ _ _ _ _⟩
end Go.Proofs.Ytcnhagcmklgpkaa
