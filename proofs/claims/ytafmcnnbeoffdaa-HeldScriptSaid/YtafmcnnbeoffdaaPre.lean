/-
  The contracts of held.Used and held.Next. Conditions: the row lies in memory; the prefix's base is a number of 32 bits.
-/
import Derived.Test.YtafmcnnbeoffdaaRgt
set_option linter.unusedSimpArgs false
set_option linter.unusedVariables false
namespace Go.Proofs.Ytafmcnnbeoffdaa
open Go.RowKit

/-- How many of the first holders are a prefix's. -/
def us (a b : Int) (xs : List Hr) (k : Nat) : Nat := ((xs.take k).filter fun x => hasB a b x.a).length
theorem us_succ {a b : Int} {xs : List Hr} {k : Nat} {x : Hr} (h : xs[k]? = some x) : us a b xs (k + 1) = us a b xs k + if hasB a b x.a = true then 1 else 0 := by
  unfold us
  rw [List.take_add_one, h]
  simp only [Option.toList_some, List.filter_append, List.length_append, List.filter_cons, List.filter_nil]
  split <;> simp
theorem us_le (a b : Int) (xs : List Hr) (k : Nat) : us a b xs k ≤ k := by
  unfold us
  refine Nat.le_trans (List.length_filter_le _ _) ?_
  rw [List.length_take]; omega
def usedN (a b : Int) (xs : List Hr) : Nat := us a b xs xs.length

/-- The world behind the boxing of a prefix. -/
theorem bx_cells (a b : Int) (w wr : World) (h : Below (w.alloc (.cells #[.int .u32 a, .int .i64 b] 50)).heap.size (w.alloc (.cells #[.int .u32 a, .int .i64 b] 50)) wr) : wr.cell? ⟨w.heap.size, 0, none⟩ = some (.int .u32 a) ∧ wr.cell? ⟨w.heap.size, 1, none⟩ = some (.int .i64 b) ∧ w.heap.size < wr.heap.size ∧ Below w.heap.size w wr := by
  refine ⟨?_, ?_, ?_, ?_⟩
  · rw [h.cell (p := ⟨w.heap.size, 0, none⟩) (by simp)]; simp
  · rw [h.cell (p := ⟨w.heap.size, 1, none⟩) (by simp)]; simp
  · have := h.size; simp at this; omega
  · exact ((Below.refl _ w).alloc (Nat.le_refl _) _).trans (h.mono (by simp))
theorem hx_below {w : World} (o : Obj) {w1 : World} (h : Below (w.alloc o).heap.size (w.alloc o) w1) : Below w.heap.size w w1 :=
  ((Below.refl _ w).alloc (Nat.le_refl _) _).trans (h.mono (by simp))

set_option maxRecDepth 100000 in
set_option maxHeartbeats 4000000 in
theorem used_any (a b : Int) (A : Option Addr) (xs : List Hr) (cap : Nat) (w : World) (h : Hs w A xs) (hc : xs.length ≤ cap) (ha0 : 0 ≤ a) (ha1 : a < 4294967296) :
    Calls Try.prog 22 #[.slice A xs.length cap, .agg #[.int .u32 a, .int .i64 b]] w fun e w' => e = .returned (.int .i64 (usedN a b xs : Nat)) ∧ Below w.heap.size w w' := by
  have hln := h.1
  have R := Lib.hid h
  have HU := Lib.hid (show usedN a b xs = us a b xs xs.length from rfl)
  have HB := Lib.hid (bx_cells a b w)
  clear h
  obtain ⟨L, hL⟩ : ∃ L, xs.length = L := ⟨_, rfl⟩
  have HL := Lib.hid hL
  rw [hL] at hc hln HU ⊢
  clear hL
  go_enter Try.func22, Try.ntmps22
  go_wp2_with fail
  generalize hw0 : w.alloc (.cells #[.int .u32 a, .int .i64 b] 50) = w0 at *
  go_loopw [5, 10] (fun n i wr => ∃ k : Nat, i = .int .i64 k ∧ k ≤ L ∧ n = .int .i64 (us a b xs k : Nat) ∧ Hid (Below w0.heap.size w0 wr)) (fun _ i _ => L - (intOf i).toNat)
  case atStart => exact ⟨0, rfl, by omega, rfl, Below.refl _ _⟩
  case round =>
    obtain ⟨k, rfl, hk, rfl, HH⟩ := hrel
    obtain ⟨p0, p1, pz, hbw⟩ := HB.out wr HH.out
    have HBW := Lib.hid hbw
    clear hbw
    have hus := us_le a b xs k
    by_cases hlt : k < L
    · obtain ⟨x, hx⟩ : ∃ x, xs[k]? = some x := ⟨_, List.getElem?_eq_getElem (by rw [HL.out]; exact hlt)⟩
      obtain ⟨y, rfl⟩ := hs_some R.out (by rw [HL.out]; omega)
      have hok := R.out.ok hx
      have hat := (R.out.below HBW.out).at hx
      have HS := Lib.hid (us_succ (a := a) (b := b) hx)
      have HA := Lib.hid fun W => has_any a b x.a W ha0 ha1 hok.1 hok.2.1
      obtain ⟨xa, xT, x0, x1, x2, x3, x4, x5⟩ := x
      dsimp only at HS HA
      generalize us a b xs k = N at *
      generalize hasB a b xa = C at *
      clear hx hok
      have hne : wr.heap.size ≠ w.heap.size := by omega
      go_wp2_with (refine at_load33 _ rfl rfl _ _ rfl hat ?_)
      refine (HA.out _).mono ?_
      rintro e w1 ⟨rfl, hb⟩
      have B1 := Lib.hid (HH.out.trans ((hx_below _ hb).mono HH.out.size))
      clear hb
      cases C
      · go_wp2_with fail
        go_roundw
        case rel => exact ⟨k + 1, by go_num, by omega, by rw [HS.out]; rfl, B1.out⟩
        case measure => simp [intOf]; omega
      · go_wp2_with fail
        go_roundw
        case rel => exact ⟨k + 1, by go_num, by omega, by rw [HS.out]; go_num, B1.out⟩
        case measure => simp [intOf]; omega
    · obtain rfl : k = L := by omega
      go_wp2_with fail
      go_ret
      exact ⟨by rw [HU.out]; rfl, HBW.out⟩

/-- How far the first address that is for nobody is. -/
def nxS (a b : Int) (k : Int) (x : Hr) : Int := if k < sizeOf a b ∧ a + k = x.a then k + 1 else k
def nxk (a b : Int) (xs : List Hr) (i : Nat) : Int := (xs.take i).foldl (nxS a b) 0
theorem nxk_succ {a b : Int} {xs : List Hr} {k : Nat} {x : Hr} (h : xs[k]? = some x) : nxk a b xs (k + 1) = nxS a b (nxk a b xs k) x := by
  unfold nxk
  rw [List.take_add_one, h]
  simp
theorem nxk_in (a b : Int) (xs : List Hr) (k : Nat) : 0 ≤ nxk a b xs k ∧ nxk a b xs k ≤ k := by
  induction k with
  | zero => simp [nxk]
  | succ k ih =>
    by_cases hk : k < xs.length
    · rw [nxk_succ (List.getElem?_eq_getElem hk)]
      unfold nxS
      split <;> omega
    · have : nxk a b xs (k + 1) = nxk a b xs k := by
        unfold nxk
        rw [List.take_of_length_le (by omega), List.take_of_length_le (by omega)]
      rw [this]; omega
def nextK (a b : Int) (xs : List Hr) : Int := nxk a b xs xs.length
/-- The first address of a prefix that is for nobody, and whether there is one. -/
def nextB (a b : Int) (xs : List Hr) : Bool := decide (nextK a b xs < sizeOf a b)
def nextA (a b : Int) (xs : List Hr) : Int := if nextB a b xs = true then a + nextK a b xs else 0

set_option maxRecDepth 100000 in
set_option maxHeartbeats 4000000 in
theorem next_any (a b : Int) (A : Option Addr) (xs : List Hr) (cap : Nat) (w : World) (h : Hs w A xs) (hc : xs.length ≤ cap) (ha0 : 0 ≤ a) (ha1 : a < 4294967296) :
    Calls Try.prog 19 #[.slice A xs.length cap, .agg #[.int .u32 a, .int .i64 b]] w fun e w' => e = .returned (.tuple #[.int .u32 (nextA a b xs), .bool (nextB a b xs)]) ∧ Below w.heap.size w w' := by
  have hln := h.1
  have R := Lib.hid h
  have HU := Lib.hid (show nextK a b xs = nxk a b xs xs.length from rfl)
  have HNA := Lib.hid (show nextA a b xs = if nextB a b xs = true then a + nextK a b xs else 0 from rfl)
  have HNB := Lib.hid (show nextB a b xs = decide (nextK a b xs < sizeOf a b) from rfl)
  have HB := Lib.hid (bx_cells a b w)
  have HY := Lib.hid fun k W => at_yes a b k W ha0 ha1
  have HZ := Lib.hid fun k W => at_no a b k W ha0 ha1
  clear h
  obtain ⟨L, hL⟩ : ∃ L, xs.length = L := ⟨_, rfl⟩
  have HL := Lib.hid hL
  rw [hL] at hc hln HU ⊢
  clear hL
  go_enter Try.func19, Try.ntmps19
  go_wp2_with fail
  generalize hw0 : w.alloc (.cells #[.int .u32 a, .int .i64 b] 50) = w0 at *
  go_loopw [6, 13] (fun n i wr => ∃ k : Nat, i = .int .i64 k ∧ k ≤ L ∧ n = .int .i64 (nxk a b xs k) ∧ Hid (Below w0.heap.size w0 wr)) (fun _ i _ => L - (intOf i).toNat)
  case atStart => exact ⟨0, rfl, by omega, rfl, Below.refl _ _⟩
  case round =>
    obtain ⟨k, rfl, hk, rfl, HH⟩ := hrel
    obtain ⟨p0, p1, pz, hbw⟩ := HB.out wr HH.out
    have HBW := Lib.hid hbw
    clear hbw
    obtain ⟨hn0, hn1⟩ := nxk_in a b xs k
    by_cases hlt : k < L
    · obtain ⟨x, hx⟩ : ∃ x, xs[k]? = some x := ⟨_, List.getElem?_eq_getElem (by rw [HL.out]; exact hlt)⟩
      obtain ⟨y, rfl⟩ := hs_some R.out (by rw [HL.out]; omega)
      have hok := R.out.ok hx
      have hat := (R.out.below HBW.out).at hx
      have HS := Lib.hid (nxk_succ (a := a) (b := b) hx)
      have X0 := hok.1
      have X1 := hok.2.1
      obtain ⟨xa, xT, x0, x1, x2, x3, x4, x5⟩ := x
      dsimp only at HS X0 X1
      generalize nxk a b xs k = N at *
      clear hx hok
      have hne : wr.heap.size ≠ w.heap.size := by omega
      by_cases hin : N < sizeOf a b
      · have HYN := Lib.hid fun W => HY.out N W hn0 hin
        by_cases he : a + N = xa
        · have HSS := Lib.hid (show nxk a b xs (k + 1) = N + 1 by rw [HS.out]; simp [nxS, hin, he])
          have he2 : (a + N == xa) = true := by simpa using he
          clear he
          go_wp2_with (refine at_load33 _ rfl rfl _ _ rfl hat ?_)
          refine (HYN.out _).mono ?_
          rintro e w1 ⟨rfl, hb⟩
          obtain ⟨hc1, hf1⟩ := bcell hb
          have hz1 : wr.heap.size < w1.heap.size := by have := hb.size; simp at this; omega
          have B1 := Lib.hid (HH.out.trans ((hx_below _ hb).mono HH.out.size))
          clear hb
          go_wp2_with fail
          go_roundw
          case rel => exact ⟨k + 1, by go_num, by omega, by rw [HSS.out], B1.out⟩
          case measure => simp [intOf]; omega
        · have HSS := Lib.hid (show nxk a b xs (k + 1) = N by rw [HS.out]; simp [nxS, hin, he])
          have he2 : (a + N == xa) = false := by simpa using he
          clear he
          go_wp2_with (refine at_load33 _ rfl rfl _ _ rfl hat ?_)
          refine (HYN.out _).mono ?_
          rintro e w1 ⟨rfl, hb⟩
          obtain ⟨hc1, hf1⟩ := bcell hb
          have hz1 : wr.heap.size < w1.heap.size := by have := hb.size; simp at this; omega
          have B1 := Lib.hid (HH.out.trans ((hx_below _ hb).mono HH.out.size))
          clear hb
          go_wp2_with fail
          go_roundw
          case rel => exact ⟨k + 1, by go_num, by omega, by rw [HSS.out], B1.out⟩
          case measure => simp [intOf]; omega
      · have HZN := Lib.hid fun W => HZ.out N W (.inr (by omega))
        have HSS := Lib.hid (show nxk a b xs (k + 1) = N by rw [HS.out]; simp [nxS, hin])
        go_wp2_with (refine at_load33 _ rfl rfl _ _ rfl hat ?_)
        refine (HZN.out _).mono ?_
        rintro e w1 ⟨rfl, hb⟩
        have B1 := Lib.hid (HH.out.trans ((hx_below _ hb).mono HH.out.size))
        clear hb
        go_wp2_with fail
        go_roundw
        case rel => exact ⟨k + 1, by go_num, by omega, by rw [HSS.out], B1.out⟩
        case measure => simp [intOf]; omega
    · obtain rfl : k = L := by omega
      by_cases hin : nxk a b xs k < sizeOf a b
      · have HYN := Lib.hid fun W => HY.out (nxk a b xs k) W hn0 hin
        have hB : nextB a b xs = true := by rw [HNB.out, HU.out]; simpa using hin
        have HA := Lib.hid (show nextA a b xs = a + nxk a b xs k by rw [HNA.out, hB, if_pos rfl, HU.out])
        have HBB := Lib.hid hB
        clear hB
        go_wp2_with fail
        refine (HYN.out _).mono ?_
        rintro e w1 ⟨rfl, hb⟩
        have B1 := Lib.hid (HBW.out.trans (hb.mono HBW.out.size))
        clear hb
        go_wp2_with fail
        go_ret2
        exact ⟨by rw [HA.out, HBB.out]; rfl, B1.out⟩
      · have HZN := Lib.hid fun W => HZ.out (nxk a b xs k) W (.inr (by omega))
        have hB : nextB a b xs = false := by rw [HNB.out, HU.out]; simpa using hin
        have HA := Lib.hid (show nextA a b xs = 0 by rw [HNA.out, hB, if_neg (by simp)])
        have HBB := Lib.hid hB
        clear hB
        go_wp2_with fail
        refine (HZN.out _).mono ?_
        rintro e w1 ⟨rfl, hb⟩
        have B1 := Lib.hid (HBW.out.trans (hb.mono HBW.out.size))
        clear hb
        go_wp2_with fail
        go_ret2
        exact ⟨by rw [HA.out, HBB.out]; rfl, B1.out⟩
end Go.Proofs.Ytafmcnnbeoffdaa
