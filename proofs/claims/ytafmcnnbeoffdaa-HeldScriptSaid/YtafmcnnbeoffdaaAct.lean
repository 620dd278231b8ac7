/-
  A deed of layer 11's statements: its parts, how it lies in memory, which holder it means. Conditions: as each theorem says.
-/
import Derived.Test.YtafmcnnbeoffdaaPre
import Derived.Test.YtafmcnnbeoffdaaOt
set_option linter.unusedSimpArgs false
set_option linter.unusedVariables false
namespace Go.Proofs.Ytafmcnnbeoffdaa
open Go.RowKit

structure Ac where
  tk : Bool
  ad : Int
  ow : Int
  mc : Int
  an : ByteArray
def Ac.ok (a : Ac) : Prop := (0 ≤ a.ad ∧ a.ad < 256) ∧ (0 ≤ a.ow ∧ a.ow < 256) ∧ (0 ≤ a.mc ∧ a.mc < 256) ∧ a.an.size ≤ 9223372036854775807
def ac (a : Ac) : List Value := [.bool a.tk, .int .u8 a.ad, .int .u8 a.ow, .int .u8 a.mc, .string a.an]
def av (a : Ac) : Value := .agg #[.bool a.tk, .int .u8 a.ad, .int .u8 a.ow, .int .u8 a.mc, .string a.an]
theorem ac_length (a : Ac) : (ac a).length = 5 := rfl
/-- The deeds that a slice's value has, wherever they lie. -/
def Ra (w : World) (A : Option Addr) (xs : List Ac) : Prop :=
  xs.length ≤ 140737488355328 ∧ ∀ (q : Nat) (a : Ac), xs[q]? = some a → a.ok ∧ ∃ x, A = some x ∧ ∀ j v, (ac a)[j]? = some v → w.cell? (x.add (q * 5 + j)) = some v
theorem Ra.below {w w' : World} {A : Option Addr} {xs : List Ac} (h : Ra w A xs) (hb : Below w.heap.size w w') : Ra w' A xs := by
  refine ⟨h.1, fun q a hq => ?_⟩
  obtain ⟨hk, x, hx, hc⟩ := h.2 q a hq
  exact ⟨hk, x, hx, fun j v hv => (hb.cell (World.block_lt_of_cell? _ _ (hc j v hv))).trans (hc j v hv)⟩
theorem size27 : (Try.prog.info? 27).map (·.size) = some 5 := by kernel_rfl
theorem load27 {w : World} {x : Addr} {a : Ac} (h : ∀ j v, (ac a)[j]? = some v → w.cell? (x.add j) = some v) : (Instr.loadAt 27 (.pointer (some x))).run Try.prog w = .ok (av a) w := by
  have hl : (loadCells x 5).run Try.prog w = .ok (ac a).toArray w := run_loadCells_list (P := Try.prog) w x (ac a) h
  obtain ⟨i, hi, hs⟩ := Option.map_eq_some_iff.1 size27
  have hg : (isAgg 27).run Try.prog w = .ok true w := by
    unfold isAgg
    simp only [Sem.run_bind, run_underlying Try.underlying27, Result.andThen_ok, Sem.run_pure]
  have hz : (Go.sizeOf 27).run Try.prog w = .ok 5 w := by
    rw [← hs]
    simp [Go.sizeOf, typeInfo, hi]
  simp only [Instr.loadAt, Instr.sureAddr, loadVar, Sem.run_bind, Sem.run_pure, Result.andThen_ok, hg, hz, hl, if_true]
  rfl
theorem at_load27 {ops : Array Oper} {rest : List Oper} {op : Oper} {a : Act} {w : World} {Q : Exit → Act → World → Prop} (x : Operand) (hgd : op.guard = none) (ho : op.op = .load 27 x) (y : Addr) (z : Ac) (hx : a.eval x = .pointer (some y)) (hr : ∀ j v, (ac z)[j]? = some v → w.cell? (y.add j) = some v)
    (h : wpList Try.prog ops Q rest (a.put op.dst (.agg #[.bool z.tk, .int .u8 z.ad, .int .u8 z.ow, .int .u8 z.mc, .string z.an])) w) : wpList Try.prog ops Q (op :: rest) a w :=
  wpList_plain hgd fun _ hK => by
    unfold Oper.wp execOp
    simp only [ho, hx, Sem.run_bind, Sem.run_pure, Result.andThen_ok, load27 hr]
    exact hK _ _ h

/-- One of a few addresses; of a few owners; of a few stations. -/
def near (n : Int) : Int := 167772160 + n % 64
theorem near_any (n : Int) (w : World) (h0 : 0 ≤ n) (h1 : n < 256) : Calls Try.prog 18 #[.int .u8 n] w fun e w' => e = .returned (.int .u32 (near n)) ∧ w' = w := by
  have H := Lib.hid (show near n = 167772160 + n % 64 from rfl)
  go_enter Try.func18, Try.ntmps18
  go_wp2_with fail
  go_ret
  exact ⟨by rw [H.out]; rfl, rfl⟩
theorem near_in (n : Int) : 0 ≤ near n ∧ near n < 4294967296 := by unfold near; omega
def st0 (n : Int) : Int := if n < 128 then 2 else 0
def st5 (n : Int) : Int := if n < 128 then 1 + n % 3 else 0
set_option maxHeartbeats 1000000 in
theorem station_any (n : Int) (w : World) (h0 : 0 ≤ n) (h1 : n < 256) : Calls Try.prog 24 #[.int .u8 n] w fun e w' => e = .returned (.agg #[.int .u8 (st0 n), .int .u8 0, .int .u8 0, .int .u8 0, .int .u8 0, .int .u8 (st5 n)]) ∧ Below w.heap.size w w' := by
  by_cases h : n < 128
  · have H := Lib.hid (show st0 n = 2 ∧ st5 n = 1 + n % 3 by simp [st0, st5, h])
    rw [H.out.1, H.out.2]
    go_enter Try.func24, Try.ntmps24
    go_wp2_with fail
    exact bodyPost_ret (v := .agg #[.int .u8 2, .int .u8 0, .int .u8 0, .int .u8 0, .int .u8 0, .int .u8 (1 + n % 3)]) (by simp [results, Try.results24, go_sem]) rfl ⟨rfl, (Below.refl _ w).alloc (Nat.le_refl _) _⟩
  · have H := Lib.hid (show st0 n = 0 ∧ st5 n = 0 by simp [st0, st5, h])
    rw [H.out.1, H.out.2]
    go_enter Try.func24, Try.ntmps24
    go_wp2_with fail
    exact bodyPost_ret (v := .agg #[.int .u8 0, .int .u8 0, .int .u8 0, .int .u8 0, .int .u8 0, .int .u8 0]) (by simp [results, Try.results24, go_sem]) rfl ⟨rfl, (Below.refl _ w).alloc (Nat.le_refl _) _⟩
/-- The owner by a number. -/
def oS (r : Nat) : ByteArray := ⟨#[UInt8.ofNat (97 + r)]⟩
def oT (r : Nat) : ByteArray := ⟨#[111, UInt8.ofNat (97 + r)]⟩
theorem run_oS (r : Nat) (hr : r < 8) (W : World) : (Instr.slice 9 (.string ⟨#[97, 98, 99, 100, 101, 102, 103, 104]⟩) (some (.int .u8 (r : Int))) (some (.int .u8 ((r : Int) + 1))) none).run Try.prog W = .ok (.string (oS r)) W := by
  rcases (show r = 0 ∨ r = 1 ∨ r = 2 ∨ r = 3 ∨ r = 4 ∨ r = 5 ∨ r = 6 ∨ r = 7 by omega) with rfl | rfl | rfl | rfl | rfl | rfl | rfl | rfl <;> kernel_rfl
theorem run_oT (r : Nat) (W : World) : (Op.stringOp .add ⟨#[111]⟩ (oS r)).run Try.prog W = .ok (.string (oT r)) W := by
  unfold oS oT Op.stringOp
  rfl
theorem oT_size (r : Nat) : (oT r).size = 2 := rfl
theorem oT_ok (r : Nat) (hr : r < 8) : mayB (oT r) = true := by
  rcases (show r = 0 ∨ r = 1 ∨ r = 2 ∨ r = 3 ∨ r = 4 ∨ r = 5 ∨ r = 6 ∨ r = 7 by omega) with rfl | rfl | rfl | rfl | rfl | rfl | rfl | rfl <;> decide
/-- The holder of a deed. -/
def hd (a : Ac) : Hr := ⟨near a.ad, oT (a.ow % 8).toNat, st0 a.mc, 0, 0, 0, 0, st5 a.mc⟩
theorem hd_ok (a : Ac) : (hd a).ok := ⟨(near_in a.ad).1, (near_in a.ad).2, by show (oT _).size ≤ _; rw [oT_size]; omega⟩
theorem hd_may (a : Ac) (h : a.ok) : mayB (hd a).T = true := oT_ok _ (by have := h.2.1; omega)
/-- The cells of a deed in a box. -/
theorem ac_box (w : World) (a : Ac) : ∀ j v, (ac a)[j]? = some v → (w.alloc (.cells #[.bool a.tk, .int .u8 a.ad, .int .u8 a.ow, .int .u8 a.mc, .string a.an] 27)).cell? ⟨w.heap.size, j, none⟩ = some v := by
  intro j v h
  match j, h with
  | 0, h => simp [ac] at h; subst h; simp
  | 1, h => simp [ac] at h; subst h; simp
  | 2, h => simp [ac] at h; subst h; simp
  | 3, h => simp [ac] at h; subst h; simp
  | 4, h => simp [ac] at h; subst h; simp
  | j + 5, h => simp [ac] at h
theorem calls_fx {f : FuncId} {args : Array Value} {W : World} {v : Value} {Φ : List (Value → World → Prop)} {i : Nat} (h : Calls Try.prog f args W fun e w' => e = .returned v ∧ Below W.heap.size W w') (hi : fAt Φ i = fx v) :
    Calls Try.prog f args W fun e w' => ∃ v, e = .returned v ∧ Below W.heap.size W w' ∧ fAt Φ i v w' := h.mono fun _ _ ⟨he, hb⟩ => ⟨v, he, hb, by rw [hi]; exact rfl⟩
theorem calls_fx' {f : FuncId} {args : Array Value} {W : World} {v : Value} {Φ : List (Value → World → Prop)} {i : Nat} (h : Calls Try.prog f args W fun e w' => e = .returned v ∧ w' = W) (hi : fAt Φ i = fx v) :
    Calls Try.prog f args W fun e w' => ∃ v, e = .returned v ∧ Below W.heap.size W w' ∧ fAt Φ i v w' := h.mono fun _ _ ⟨he, hb⟩ => ⟨v, he, by rw [hb]; exact Below.refl _ _, by rw [hi]; exact rfl⟩

set_option maxRecDepth 100000 in
set_option maxHeartbeats 2000000 in
theorem holder_any (a : Ac) (w : World) (h : a.ok) : Calls Try.prog 10 #[av a] w fun e w' => e = .returned (hv (hd a)) ∧ Below w.heap.size w w' := by
  have HD := Lib.hid (show hd a = ⟨near a.ad, oT (a.ow % 8).toNat, st0 a.mc, 0, 0, 0, 0, st5 a.mc⟩ from rfl)
  obtain ⟨tk, ad, ow, mc, an⟩ := a
  obtain ⟨⟨a0, a1⟩, ⟨b0, b1⟩, ⟨c0, c1⟩, d1⟩ := h
  dsimp only at a0 a1 b0 b1 c0 c1 d1 HD
  obtain ⟨r, hr⟩ : ∃ r : Nat, ow % 8 = r := ⟨(ow % 8).toNat, by omega⟩
  have hr8 : r < 8 := by omega
  have hrt : (ow % 8).toNat = r := by omega
  rw [hrt] at HD
  rw [HD.out]
  have HN := Lib.hid fun W => near_any ad W a0 a1
  have HS := Lib.hid fun W => station_any mc W c0 c1
  have HO := Lib.hid (run_oS r hr8)
  have HT := Lib.hid (run_oT r)
  have HR := Lib.hid (show ow.tmod 8 = (r : Int) by rw [Int.tmod_eq_emod_of_nonneg b0]; exact hr)
  have HW := Lib.hid (show IntKind.u8.wrap (r : Int) = (r : Int) ∧ IntKind.u8.wrap ((r : Int) + 1) = (r : Int) + 1 by constructor <;> (simp [IntKind.wrap, IntKind.bits, IntKind.signed]; try omega))
  have HC := Lib.hid (ac_box w ⟨tk, ad, ow, mc, an⟩)
  generalize near ad = na at *
  generalize st0 mc = s0 at *
  generalize st5 mc = s5 at *
  clear hr hrt HD
  unfold av hv
  dsimp only
  go_enter Try.func10, Try.ntmps10
  go_wp2_with fail
  have HC1 := Lib.hid (show ∀ W, Below ((w.alloc (.cells #[.bool tk, .int .u8 ad, .int .u8 ow, .int .u8 mc, .string an] 27)).alloc (.cells #[.int .u32 0, .string ⟨#[]⟩, .int .u8 0, .int .u8 0, .int .u8 0, .int .u8 0, .int .u8 0, .int .u8 0] 33)).heap.size ((w.alloc (.cells #[.bool tk, .int .u8 ad, .int .u8 ow, .int .u8 mc, .string an] 27)).alloc (.cells #[.int .u32 0, .string ⟨#[]⟩, .int .u8 0, .int .u8 0, .int .u8 0, .int .u8 0, .int .u8 0, .int .u8 0] 33)) W → W.cell? ⟨w.heap.size, 1, none⟩ = some (.int .u8 ad) ∧ W.cell? ⟨w.heap.size, 2, none⟩ = some (.int .u8 ow) ∧ W.cell? ⟨w.heap.size, 3, none⟩ = some (.int .u8 mc) ∧ Below w.heap.size w W ∧ (W.cell? ⟨w.heap.size + 1, 0, none⟩ = some (.int .u32 0) ∧ W.cell? ⟨w.heap.size + 1, 1, none⟩ = some (.string ⟨#[]⟩) ∧ W.cell? ⟨w.heap.size + 1, 2, none⟩ = some (.int .u8 0) ∧ W.cell? ⟨w.heap.size + 1, 3, none⟩ = some (.int .u8 0) ∧ W.cell? ⟨w.heap.size + 1, 4, none⟩ = some (.int .u8 0) ∧ W.cell? ⟨w.heap.size + 1, 5, none⟩ = some (.int .u8 0) ∧ W.cell? ⟨w.heap.size + 1, 6, none⟩ = some (.int .u8 0) ∧ W.cell? ⟨w.heap.size + 1, 7, none⟩ = some (.int .u8 0)) ∧ (∀ k, W.frozen? ⟨w.heap.size + 1, k, none⟩ = false) ∧ w.heap.size + 1 < W.heap.size from fun W hW => by
    refine ⟨?_, ?_, ?_, ?_, ⟨?_, ?_, ?_, ?_, ?_, ?_, ?_, ?_⟩, fun k => ?_, ?_⟩
    · rw [hW.cell (p := ⟨w.heap.size, 1, none⟩) (by simp; omega)]; simp
    · rw [hW.cell (p := ⟨w.heap.size, 2, none⟩) (by simp; omega)]; simp
    · rw [hW.cell (p := ⟨w.heap.size, 3, none⟩) (by simp; omega)]; simp
    · exact (((Below.refl _ w).alloc (Nat.le_refl _) _).alloc (by simp) _).trans (hW.mono (by simp; omega))
    · rw [hW.cell (p := ⟨w.heap.size + 1, 0, none⟩) (by simp)]; simp
    · rw [hW.cell (p := ⟨w.heap.size + 1, 1, none⟩) (by simp)]; simp
    · rw [hW.cell (p := ⟨w.heap.size + 1, 2, none⟩) (by simp)]; simp
    · rw [hW.cell (p := ⟨w.heap.size + 1, 3, none⟩) (by simp)]; simp
    · rw [hW.cell (p := ⟨w.heap.size + 1, 4, none⟩) (by simp)]; simp
    · rw [hW.cell (p := ⟨w.heap.size + 1, 5, none⟩) (by simp)]; simp
    · rw [hW.cell (p := ⟨w.heap.size + 1, 6, none⟩) (by simp)]; simp
    · rw [hW.cell (p := ⟨w.heap.size + 1, 7, none⟩) (by simp)]; simp
    · rw [hW.frozen (p := ⟨w.heap.size + 1, k, none⟩) (by simp)]; simp
    · have := hW.size; simp at this; omega)
  clear HC
  refine wp_region_below_end (by simp) [fx (.pointer (some ⟨w.heap.size, 1, none⟩)), fx (.int .u8 ad), fx (.int .u32 na), fx (.pointer (some ⟨w.heap.size, 2, none⟩)), fx (.int .u8 ow), fx (.int .u8 (r : Int)), fx (.pointer (some ⟨w.heap.size, 2, none⟩)), fx (.int .u8 ow), fx (.int .u8 (r : Int)), fx (.int .u8 ((r : Int) + 1)), fx (.string (oS r)), fx (.string (oT r)), fx (.pointer (some ⟨w.heap.size, 3, none⟩)), fx (.int .u8 mc), fx (.agg #[.int .u8 s0, .int .u8 0, .int .u8 0, .int .u8 0, .int .u8 0, .int .u8 s5]), fx (.agg #[.int .u32 na, .string (oT r), .int .u8 s0, .int .u8 0, .int .u8 0, .int .u8 0, .int .u8 0, .int .u8 s5])]
    (by kernel_rfl) (by kernel_rfl) (by kernel_rfl) (by kernel_rfl) ?_ ?_ ?_
  · simp only [List.mem_cons, List.not_mem_nil, or_false]
    rintro φ (rfl | rfl | rfl | rfl | rfl | rfl | rfl | rfl | rfl | rfl | rfl | rfl | rfl | rfl | rfl | rfl)
    all_goals exact stable_fx _
  · refine OgSteps.cons ?_ (OgSteps.cons ?_ (OgSteps.cons ?_ (OgSteps.cons ?_ (OgSteps.cons ?_ (OgSteps.cons ?_ (OgSteps.cons ?_ (OgSteps.cons ?_ (OgSteps.cons ?_ (OgSteps.cons ?_ (OgSteps.cons ?_ (OgSteps.cons ?_ (OgSteps.cons ?_ (OgSteps.cons ?_ (OgSteps.cons ?_ (OgSteps.cons ?_ (OgSteps.nil))))))))))))))))
    · refine OgStep.pure ?_ ?_
      · rfl
      intro u W hS hp
      refine ⟨.pointer (some ⟨w.heap.size, 1, none⟩), ?_, rfl⟩
      simp only [ogMk, Act.put, List.setIfInBounds_toArray, List.set_cons_zero, List.set_cons_succ, Nat.zero_add, Nat.reduceAdd]
      simp [execOp, Act.eval, go_sem]
    · refine OgStep.pure ?_ ?_
      · rfl
      intro u W hS hp
      have h0 : u 0 = .pointer (some ⟨w.heap.size, 1, none⟩) := hp ⟨0, .data⟩ (by simp) rfl
      obtain ⟨R1, R2, R3, _⟩ := HC1.out W hS
      refine ⟨.int .u8 ad, ?_, rfl⟩
      simp only [ogMk, Act.put, List.setIfInBounds_toArray, List.set_cons_zero, List.set_cons_succ, Nat.zero_add, Nat.reduceAdd]
      simp [execOp, Act.eval, go_sem, h0, R1]
    · refine OgStep.calls ?_ ?_
      · rfl
      intro u W hS hp
      have h1 : u 1 = .int .u8 ad := hp ⟨1, .data⟩ (by simp) rfl
      refine ⟨18, #[.int .u8 ad], ?_, calls_fx' (HN.out W) rfl⟩
      simp only [ogMk, Act.put, List.setIfInBounds_toArray, List.set_cons_zero, List.set_cons_succ, Nat.zero_add, Nat.reduceAdd]
      simp [execOp, Act.eval, go_sem, h1]
    · refine OgStep.pure ?_ ?_
      · rfl
      intro u W hS hp
      refine ⟨.pointer (some ⟨w.heap.size, 2, none⟩), ?_, rfl⟩
      simp only [ogMk, Act.put, List.setIfInBounds_toArray, List.set_cons_zero, List.set_cons_succ, Nat.zero_add, Nat.reduceAdd]
      simp [execOp, Act.eval, go_sem]
    · refine OgStep.pure ?_ ?_
      · rfl
      intro u W hS hp
      have h3 : u 3 = .pointer (some ⟨w.heap.size, 2, none⟩) := hp ⟨3, .data⟩ (by simp) rfl
      obtain ⟨R1, R2, R3, _⟩ := HC1.out W hS
      refine ⟨.int .u8 ow, ?_, rfl⟩
      simp only [ogMk, Act.put, List.setIfInBounds_toArray, List.set_cons_zero, List.set_cons_succ, Nat.zero_add, Nat.reduceAdd]
      simp [execOp, Act.eval, go_sem, h3, R2]
    · refine OgStep.pure ?_ ?_
      · rfl
      intro u W hS hp
      have h4 : u 4 = .int .u8 ow := hp ⟨4, .data⟩ (by simp) rfl
      have R := HR.out
      have Q := HW.out.1
      refine ⟨.int .u8 (r : Int), ?_, rfl⟩
      simp only [ogMk, Act.put, List.setIfInBounds_toArray, List.set_cons_zero, List.set_cons_succ, Nat.zero_add, Nat.reduceAdd]
      simp [execOp, Act.eval, go_sem, h4, R, Q]
    · refine OgStep.pure ?_ ?_
      · rfl
      intro u W hS hp
      refine ⟨.pointer (some ⟨w.heap.size, 2, none⟩), ?_, rfl⟩
      simp only [ogMk, Act.put, List.setIfInBounds_toArray, List.set_cons_zero, List.set_cons_succ, Nat.zero_add, Nat.reduceAdd]
      simp [execOp, Act.eval, go_sem]
    · refine OgStep.pure ?_ ?_
      · rfl
      intro u W hS hp
      have h6 : u 6 = .pointer (some ⟨w.heap.size, 2, none⟩) := hp ⟨6, .data⟩ (by simp) rfl
      obtain ⟨R1, R2, R3, _⟩ := HC1.out W hS
      refine ⟨.int .u8 ow, ?_, rfl⟩
      simp only [ogMk, Act.put, List.setIfInBounds_toArray, List.set_cons_zero, List.set_cons_succ, Nat.zero_add, Nat.reduceAdd]
      simp [execOp, Act.eval, go_sem, h6, R2]
    · refine OgStep.pure ?_ ?_
      · rfl
      intro u W hS hp
      have h7 : u 7 = .int .u8 ow := hp ⟨7, .data⟩ (by simp) rfl
      have R := HR.out
      have Q := HW.out.1
      refine ⟨.int .u8 (r : Int), ?_, rfl⟩
      simp only [ogMk, Act.put, List.setIfInBounds_toArray, List.set_cons_zero, List.set_cons_succ, Nat.zero_add, Nat.reduceAdd]
      simp [execOp, Act.eval, go_sem, h7, R, Q]
    · refine OgStep.pure ?_ ?_
      · rfl
      intro u W hS hp
      have h8 : u 8 = .int .u8 (r : Int) := hp ⟨8, .data⟩ (by simp) rfl
      have Q := HW.out.2
      refine ⟨.int .u8 ((r : Int) + 1), ?_, rfl⟩
      simp only [ogMk, Act.put, List.setIfInBounds_toArray, List.set_cons_zero, List.set_cons_succ, Nat.zero_add, Nat.reduceAdd]
      simp [execOp, Act.eval, go_sem, h8, Q]
    · refine OgStep.pure ?_ ?_
      · rfl
      intro u W hS hp
      have h5 : u 5 = .int .u8 (r : Int) := hp ⟨5, .data⟩ (by simp) rfl
      have h9 : u 9 = .int .u8 ((r : Int) + 1) := hp ⟨9, .data⟩ (by simp) rfl
      have R := HO.out W
      refine ⟨.string (oS r), ?_, rfl⟩
      simp only [ogMk, Act.put, List.setIfInBounds_toArray, List.set_cons_zero, List.set_cons_succ, Nat.zero_add, Nat.reduceAdd]
      simp [execOp, Act.eval, go_sem, h5, h9, R]
    · refine OgStep.pure ?_ ?_
      · rfl
      intro u W hS hp
      have h10 : u 10 = .string (oS r) := hp ⟨10, .data⟩ (by simp) rfl
      have R := HT.out W
      refine ⟨.string (oT r), ?_, rfl⟩
      simp only [ogMk, Act.put, List.setIfInBounds_toArray, List.set_cons_zero, List.set_cons_succ, Nat.zero_add, Nat.reduceAdd]
      simp [execOp, Act.eval, go_sem, h10, R]
    · refine OgStep.pure ?_ ?_
      · rfl
      intro u W hS hp
      refine ⟨.pointer (some ⟨w.heap.size, 3, none⟩), ?_, rfl⟩
      simp only [ogMk, Act.put, List.setIfInBounds_toArray, List.set_cons_zero, List.set_cons_succ, Nat.zero_add, Nat.reduceAdd]
      simp [execOp, Act.eval, go_sem]
    · refine OgStep.pure ?_ ?_
      · rfl
      intro u W hS hp
      have h12 : u 12 = .pointer (some ⟨w.heap.size, 3, none⟩) := hp ⟨12, .data⟩ (by simp) rfl
      obtain ⟨R1, R2, R3, _⟩ := HC1.out W hS
      refine ⟨.int .u8 mc, ?_, rfl⟩
      simp only [ogMk, Act.put, List.setIfInBounds_toArray, List.set_cons_zero, List.set_cons_succ, Nat.zero_add, Nat.reduceAdd]
      simp [execOp, Act.eval, go_sem, h12, R3]
    · refine OgStep.calls ?_ ?_
      · rfl
      intro u W hS hp
      have h13 : u 13 = .int .u8 mc := hp ⟨13, .data⟩ (by simp) rfl
      refine ⟨24, #[.int .u8 mc], ?_, calls_fx (HS.out W) rfl⟩
      simp only [ogMk, Act.put, List.setIfInBounds_toArray, List.set_cons_zero, List.set_cons_succ, Nat.zero_add, Nat.reduceAdd]
      simp [execOp, Act.eval, go_sem, h13]
    · refine OgStep.pure ?_ ?_
      · rfl
      intro u W hS hp
      have h2 : u 2 = .int .u32 na := hp ⟨2, .data⟩ (by simp) rfl
      have h11 : u 11 = .string (oT r) := hp ⟨11, .data⟩ (by simp) rfl
      have h14 : u 14 = .agg #[.int .u8 s0, .int .u8 0, .int .u8 0, .int .u8 0, .int .u8 0, .int .u8 s5] := hp ⟨14, .data⟩ (by simp) rfl
      refine ⟨.agg #[.int .u32 na, .string (oT r), .int .u8 s0, .int .u8 0, .int .u8 0, .int .u8 0, .int .u8 0, .int .u8 s5], ?_, rfl⟩
      simp only [ogMk, Act.put, List.setIfInBounds_toArray, List.set_cons_zero, List.set_cons_succ, Nat.zero_add, Nat.reduceAdd]
      simp [execOp, Act.eval, go_sem, h2, h11, h14]
  · intro u W hS hF
    have e0 : u 0 = .pointer (some ⟨w.heap.size, 1, none⟩) := hF 0 (by decide)
    have e1 : u 1 = .int .u8 ad := hF 1 (by decide)
    have e2 : u 2 = .int .u32 na := hF 2 (by decide)
    have e3 : u 3 = .pointer (some ⟨w.heap.size, 2, none⟩) := hF 3 (by decide)
    have e4 : u 4 = .int .u8 ow := hF 4 (by decide)
    have e5 : u 5 = .int .u8 (r : Int) := hF 5 (by decide)
    have e6 : u 6 = .pointer (some ⟨w.heap.size, 2, none⟩) := hF 6 (by decide)
    have e7 : u 7 = .int .u8 ow := hF 7 (by decide)
    have e8 : u 8 = .int .u8 (r : Int) := hF 8 (by decide)
    have e9 : u 9 = .int .u8 ((r : Int) + 1) := hF 9 (by decide)
    have e10 : u 10 = .string (oS r) := hF 10 (by decide)
    have e11 : u 11 = .string (oT r) := hF 11 (by decide)
    have e12 : u 12 = .pointer (some ⟨w.heap.size, 3, none⟩) := hF 12 (by decide)
    have e13 : u 13 = .int .u8 mc := hF 13 (by decide)
    have e14 : u 14 = .agg #[.int .u8 s0, .int .u8 0, .int .u8 0, .int .u8 0, .int .u8 0, .int .u8 s5] := hF 14 (by decide)
    have e15 : u 15 = .agg #[.int .u32 na, .string (oT r), .int .u8 s0, .int .u8 0, .int .u8 0, .int .u8 0, .int .u8 0, .int .u8 s5] := hF 15 (by decide)
    simp only [ogMk, Act.put, List.setIfInBounds_toArray, List.set_cons_zero, List.set_cons_succ, Nat.zero_add, Nat.reduceAdd]
    rw [e0, e1, e2, e3, e4, e5, e6, e7, e8, e9, e10, e11, e12, e13, e14, e15]
    clear e0 e1 e2 e3 e4 e5 e6 e7 e8 e9 e10 e11 e12 e13 e14 e15 hF
    obtain ⟨_, _, _, hbw, hsm, hfr, hz⟩ := HC1.out W hS
    obtain ⟨q0, q1, q2, q3, q4, q5, q6, q7⟩ := hsm
    have BW := Lib.hid hbw
    have HL := Lib.hid (show w.heap.size ≤ w.heap.size + 1 by omega)
    clear hS hbw HN HS HO HT HR HW HC1
    go_wp2_with fail
    exact bodyPost_ret (v := .agg #[.int .u32 na, .string (oT r), .int .u8 s0, .int .u8 0, .int .u8 0, .int .u8 0, .int .u8 0, .int .u8 s5]) (by simp [results, Try.results10, go_sem, q0, q1, q2, q3, q4, q5, q6, q7]) rfl ⟨rfl, set8h BW.out HL.out _ _ _ _ _ _ _ _⟩
end Go.Proofs.Ytafmcnnbeoffdaa
