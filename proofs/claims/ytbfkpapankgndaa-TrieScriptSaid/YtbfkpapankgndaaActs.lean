/-
  A deed of layer 9's statements: its parts, how it lies in a slice that came in, which prefix it means. Conditions: as each theorem says.
-/
import Derived.Test.YtbfkpapankgndaaAll
import Derived.Deep.Slices
namespace Go.Proofs.Ytbfkpapankgndaa
open Go.RowKit

structure Ac where
  op : Int
  base : Int
  bits : Int
  raw : Bool
  ab : Int
  an : Int
def Ac.ok (a : Ac) : Prop := (0 ≤ a.op ∧ a.op < 256) ∧ (0 ≤ a.base ∧ a.base < 4294967296) ∧ (0 ≤ a.bits ∧ a.bits < 256) ∧ (0 ≤ a.ab ∧ a.ab < 4294967296)
def ac (a : Ac) : List Value := [.int .u8 a.op, .int .u32 a.base, .int .u8 a.bits, .bool a.raw, .int .u32 a.ab, .int .i64 a.an]
def av (a : Ac) : Value := .agg #[.int .u8 a.op, .int .u32 a.base, .int .u8 a.bits, .bool a.raw, .int .u32 a.ab, .int .i64 a.an]
/-- The deeds that a slice's value has, wherever they lie. -/
def Ra (w : World) (A : Option Addr) (xs : List Ac) : Prop :=
  xs.length ≤ 140737488355328 ∧ ∀ q a, xs[q]? = some a → a.ok ∧ ∃ x, A = some x ∧ ∀ j v, (ac a)[j]? = some v → w.cell? (x.add (q * 6 + j)) = some v
theorem Ra.below {w w' : World} {A : Option Addr} {xs : List Ac} (h : Ra w A xs) (hb : Below w.heap.size w w') : Ra w' A xs := by
  refine ⟨h.1, fun q a hq => ?_⟩
  obtain ⟨hk, x, hx, hc⟩ := h.2 q a hq
  exact ⟨hk, x, hx, fun j v hv => (hb.cell (World.block_lt_of_cell? _ _ (hc j v hv))).trans (hc j v hv)⟩
theorem size34 : (Try.prog.info? 34).map (·.size) = some 6 := by kernel_rfl
theorem load34 {w : World} {x : Addr} {a : Ac} (h : ∀ j v, (ac a)[j]? = some v → w.cell? (x.add j) = some v) : (Instr.loadAt 34 (.pointer (some x))).run Try.prog w = .ok (av a) w := by
  have hl : (loadCells x 6).run Try.prog w = .ok (ac a).toArray w := run_loadCells_list (P := Try.prog) w x (ac a) h
  obtain ⟨i, hi, hs⟩ := Option.map_eq_some_iff.1 size34
  have hg : (isAgg 34).run Try.prog w = .ok true w := by
    unfold isAgg
    simp only [Sem.run_bind, run_underlying Try.underlying34, Result.andThen_ok, Sem.run_pure]
  have hz : (Go.sizeOf 34).run Try.prog w = .ok 6 w := by
    rw [← hs]
    simp [Go.sizeOf, typeInfo, hi]
  simp only [Instr.loadAt, Instr.sureAddr, loadVar, Sem.run_bind, Sem.run_pure, Result.andThen_ok, hg, hz, hl, if_true]
  rfl
theorem at_load34 {ops : Array Oper} {rest : List Oper} {op : Oper} {a : Act} {w : World} {Q : Exit → Act → World → Prop} (x : Operand) (hgd : op.guard = none) (ho : op.op = .load 34 x) (y : Addr) (z : Ac) (hx : a.eval x = .pointer (some y)) (hr : ∀ j v, (ac z)[j]? = some v → w.cell? (y.add j) = some v)
    (h : wpList Try.prog ops Q rest (a.put op.dst (.agg #[.int .u8 z.op, .int .u32 z.base, .int .u8 z.bits, .bool z.raw, .int .u32 z.ab, .int .i64 z.an])) w) : wpList Try.prog ops Q (op :: rest) a w :=
  wpList_plain hgd fun _ hK => by
    unfold Oper.wp execOp
    simp only [ho, hx, Sem.run_bind, Sem.run_pure, Result.andThen_ok, load34 hr]
    exact hK _ _ h

theorem blk_ok' (a b : Int) (ha0 : 0 ≤ a) : 0 ≤ a - a % p2 b ∧ a - a % p2 b ≤ a := by
  have hp := p2_pos b
  have h2 := Int.emod_nonneg a (by omega : p2 b ≠ 0)
  have h3 : a % p2 b ≤ a := by
    have := Int.mul_ediv_add_emod a (p2 b)
    have h4 : 0 ≤ p2 b * (a / p2 b) := Int.mul_nonneg (by omega) (Int.ediv_nonneg ha0 (by omega))
    omega
  omega
/-- Its prefix. -/
def bk (a : Ac) : Int × Int := if a.raw = true then (a.ab, a.an) else (167772160 + a.base % 2048 - (167772160 + a.base % 2048) % p2 (20 + a.bits % 13), 20 + a.bits % 13)
theorem bk_in {a : Ac} (h : a.ok) : 0 ≤ (bk a).1 ∧ (bk a).1 < 4294967296 := by
  obtain ⟨_, _, _, h4⟩ := h
  unfold bk
  split
  · exact h4
  · have := blk_ok' (167772160 + a.base % 2048) (20 + a.bits % 13) (by omega)
    show 0 ≤ 167772160 + a.base % 2048 - (167772160 + a.base % 2048) % p2 (20 + a.bits % 13) ∧ 167772160 + a.base % 2048 - (167772160 + a.base % 2048) % p2 (20 + a.bits % 13) < 4294967296
    omega

set_option maxRecDepth 100000 in
theorem block9_any (a : Ac) (w : World) (h : a.ok) : Calls Try.prog 9 #[.agg #[.int .u8 a.op, .int .u32 a.base, .int .u8 a.bits, .bool a.raw, .int .u32 a.ab, .int .i64 a.an]] w fun e w' => e = .returned (.agg #[.int .u32 (bk a).1, .int .i64 (bk a).2]) ∧ Below w.heap.size w w' := by
  obtain ⟨op, base, bits, raw, ab, an⟩ := a
  obtain ⟨_, h2, h3, _⟩ := h
  dsimp only at h2 h3 ⊢
  cases raw with
  | true =>
    have HB : bk ⟨op, base, bits, true, ab, an⟩ = (ab, an) := rfl
    rw [HB]
    clear HB
    go_enter Try.func9, Try.ntmps9
    go_wp2_with fail
    have hn : (allocs w [.cells #[.int .u8 op, .int .u32 base, .int .u8 bits, .bool true, .int .u32 ab, .int .i64 an] 34, cs2 (ab, an)]).heap[w.heap.size + 1]? = some (cs2 (ab, an)) := allocs_at _ w 1 _ rfl
    obtain ⟨c0, c1, _, _⟩ := cells_2 hn
    exact bodyPost_ret (v := .agg #[.int .u32 ab, .int .i64 an]) (by simp [results, Try.f9, go_sem]) rfl ⟨rfl, allocs_below [.cells #[.int .u8 op, .int .u32 base, .int .u8 bits, .bool true, .int .u32 ab, .int .i64 an] 34, cs2 (ab, an)] w⟩
  | false =>
    have HC := Lib.hid fun W => block_any (167772160 + base % 2048) bits W (by omega) (by omega) h3.1 h3.2
    have HB : bk ⟨op, base, bits, false, ab, an⟩ = (167772160 + base % 2048 - (167772160 + base % 2048) % p2 (20 + bits % 13), 20 + bits % 13) := rfl
    rw [HB]
    clear HB
    dsimp only
    generalize 167772160 + base % 2048 - (167772160 + base % 2048) % p2 (20 + bits % 13) = u at *
    generalize 20 + bits % 13 = v at *
    go_enter Try.func9, Try.ntmps9
    go_wp2_with fail
    refine (HC.out _).mono ?_
    rintro e w1 ⟨rfl, hb⟩
    have hn : (allocs w [.cells #[.int .u8 op, .int .u32 base, .int .u8 bits, .bool false, .int .u32 ab, .int .i64 an] 34, cs2 (0, 0)]).heap[w.heap.size + 1]? = some (cs2 (0, 0)) := allocs_at _ w 1 _ rfl
    have hA := allocs_below [.cells #[.int .u8 op, .int .u32 base, .int .u8 bits, .bool false, .int .u32 ab, .int .i64 an] 34, cs2 (0, 0)] w
    have hb' : Below (allocs w [.cells #[.int .u8 op, .int .u32 base, .int .u8 bits, .bool false, .int .u32 ab, .int .i64 an] 34, cs2 (0, 0)]).heap.size (allocs w [.cells #[.int .u8 op, .int .u32 base, .int .u8 bits, .bool false, .int .u32 ab, .int .i64 an] 34, cs2 (0, 0)]) w1 := hb
    have hn1 : w1.heap[w.heap.size + 1]? = some (cs2 (0, 0)) := (hb'.block _ (Array.getElem?_eq_some_iff.1 hn).1).trans hn
    obtain ⟨c0, c1, f0, f1⟩ := cells_2 hn1
    have HB := Lib.hid (hA.trans (hb'.mono hA.size))
    have HN1 := Lib.hid hn1
    clear hb hb' hn hA hn1
    go_wp2_with fail
    have hs := set_2 (u, v) HN1.out
    obtain ⟨d0, d1, _, _⟩ := cells_2 hs
    exact bodyPost_ret (v := .agg #[.int .u32 u, .int .i64 v]) (by simp [results, Try.f9, go_sem, d0, d1]) rfl ⟨rfl, (HB.out.setCell (p := ⟨w.heap.size + 1, 0, none⟩) (by simp) _).setCell (p := ⟨w.heap.size + 1, 1, none⟩) (by simp) _⟩
end Go.Proofs.Ytbfkpapankgndaa
