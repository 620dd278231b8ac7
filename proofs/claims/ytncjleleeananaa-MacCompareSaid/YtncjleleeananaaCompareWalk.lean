/-
  The walk of MacCompare: called at any three numbers and place it returns true and changes nothing that was in memory.
-/
import Derived.Test.YtncjleleeananaaAwake
import Derived.RegionTactic
import Derived.Deep.OwnRows
namespace Go.Proofs.Ytncjleleeananaa
open Go.RowKit

theorem cmp_bd : ∀ xs ys : List Int, -1 ≤ cmpI xs ys ∧ cmpI xs ys ≤ 1
  | x :: xs, y :: ys => by
    have := cmp_bd xs ys
    unfold cmpI
    split
    · omega
    · split <;> omega
  | [], _ => by simp [cmpI]
  | _ :: _, [] => by simp [cmpI]
theorem cmp_self : ∀ xs : List Int, cmpI xs xs = 0
  | [] => rfl
  | x :: xs => by simp [cmpI, cmp_self xs]
theorem cmp_neg : ∀ xs ys : List Int, cmpI ys xs = - cmpI xs ys
  | x :: xs, y :: ys => by
    have := cmp_neg xs ys
    unfold cmpI
    by_cases h : x < y
    · rw [if_neg (by omega), if_pos h, if_pos h]; rfl
    · by_cases g : y < x
      · rw [if_pos g, if_neg h, if_pos g]
      · rw [if_neg g, if_neg h, if_neg h, if_neg g, this]
  | [], [] => rfl
  | [], _ :: _ => rfl
  | _ :: _, [] => rfl
theorem cmp_zero : ∀ xs ys : List Int, xs.length = ys.length → (cmpI xs ys = 0 ↔ xs = ys)
  | x :: xs, y :: ys, h => by
    have ih := cmp_zero xs ys (by simpa using h)
    unfold cmpI
    by_cases h : x < y
    · rw [if_pos h]; simp; omega
    · by_cases g : y < x
      · rw [if_neg h, if_pos g]; simp; omega
      · rw [if_neg h, if_neg g, ih]
        have : x = y := by omega
        simp [this]
  | [], [], _ => by simp [cmpI]
theorem cmp_le : ∀ xs ys zs : List Int, xs.length = ys.length → ys.length = zs.length → cmpI xs ys ≤ 0 → cmpI ys zs ≤ 0 → cmpI xs zs ≤ 0
  | x :: xs, y :: ys, z :: zs, h1, h2, h3, h4 => by
    have ih := cmp_le xs ys zs (by simpa using h1) (by simpa using h2)
    unfold cmpI at h3 h4 ⊢
    by_cases p1 : x < y
    · by_cases p2 : y < z
      · rw [if_pos (by omega)]; omega
      · rw [if_neg p2] at h4
        by_cases p3 : z < y
        · rw [if_pos p3] at h4; omega
        · rw [if_pos (by omega)]; omega
    · rw [if_neg p1] at h3
      by_cases p2 : y < x
      · rw [if_pos p2] at h3; omega
      · rw [if_neg p2] at h3
        by_cases p3 : y < z
        · rw [if_pos (by omega)]; omega
        · rw [if_neg p3] at h4
          by_cases p4 : z < y
          · rw [if_pos p4] at h4; omega
          · rw [if_neg p4] at h4
            rw [if_neg (by omega), if_neg (by omega)]
            exact ih h3 h4
  | [], [], [], _, _, _, _ => by simp [cmpI]

/-- How the bytes from place k on are ordered. -/
def cmpFrom (xs ys : List Int) (k : Nat) : Int := cmpI (xs.drop k) (ys.drop k)
theorem cmpFrom_step (xs ys : List Int) (k : Nat) (h : k < xs.length) (h2 : k < ys.length) : cmpFrom xs ys k = if xs.getD k 0 < ys.getD k 0 then -1 else if ys.getD k 0 < xs.getD k 0 then 1 else cmpFrom xs ys (k + 1) := by
  unfold cmpFrom
  rw [List.drop_eq_getElem_cons h, List.drop_eq_getElem_cons h2]
  simp only [cmpI, List.getD, List.getElem?_eq_getElem h, List.getElem?_eq_getElem h2, Option.getD_some]

set_option maxHeartbeats 2000000 in
theorem macCompare_walk (a0 a1 a2 a3 a4 a5 b0 b1 b2 b3 b4 b5 c0 c1 c2 c3 c4 c5 n : Int) (w : World) (ha : Six a0 a1 a2 a3 a4 a5) (hb : Six b0 b1 b2 b3 b4 b5) (hc : Six c0 c1 c2 c3 c4 c5) (hn0 : 0 ≤ n) (hn1 : n < 256) :
    Calls Try.prog 6 #[.agg #[.int .u8 a0, .int .u8 a1, .int .u8 a2, .int .u8 a3, .int .u8 a4, .int .u8 a5], .agg #[.int .u8 b0, .int .u8 b1, .int .u8 b2, .int .u8 b3, .int .u8 b4, .int .u8 b5], .agg #[.int .u8 c0, .int .u8 c1, .int .u8 c2, .int .u8 c3, .int .u8 c4, .int .u8 c5], .int .u8 n] w fun e w' => e = .returned (.bool true) ∧ Below w.heap.size w w' := by
  go_enter Try.func6, Try.ntmps6
  go_wp2_with fail
  refine (awake_any _).mono ?_
  rintro e w1 ⟨rfl, hbe⟩
  have HB := Lib.hid (show Below w.heap.size w w1 from ((((Below.refl _ w).alloc (Nat.le_refl _) _).alloc (by simp) _).alloc (by simp; omega) _).trans (hbe.mono (by simp; omega)))
  obtain ⟨hcc, hff⟩ := bcell hbe
  have af0 : w1.cell? ⟨w.heap.size, 0, none⟩ = some (.int .u8 a0) := by go_simp
  have af1 : w1.cell? ⟨w.heap.size, 1, none⟩ = some (.int .u8 a1) := by go_simp
  have af2 : w1.cell? ⟨w.heap.size, 2, none⟩ = some (.int .u8 a2) := by go_simp
  have af3 : w1.cell? ⟨w.heap.size, 3, none⟩ = some (.int .u8 a3) := by go_simp
  have af4 : w1.cell? ⟨w.heap.size, 4, none⟩ = some (.int .u8 a4) := by go_simp
  have af5 : w1.cell? ⟨w.heap.size, 5, none⟩ = some (.int .u8 a5) := by go_simp
  have bf0 : w1.cell? ⟨w.heap.size + 1, 0, none⟩ = some (.int .u8 b0) := by go_simp
  have bf1 : w1.cell? ⟨w.heap.size + 1, 1, none⟩ = some (.int .u8 b1) := by go_simp
  have bf2 : w1.cell? ⟨w.heap.size + 1, 2, none⟩ = some (.int .u8 b2) := by go_simp
  have bf3 : w1.cell? ⟨w.heap.size + 1, 3, none⟩ = some (.int .u8 b3) := by go_simp
  have bf4 : w1.cell? ⟨w.heap.size + 1, 4, none⟩ = some (.int .u8 b4) := by go_simp
  have bf5 : w1.cell? ⟨w.heap.size + 1, 5, none⟩ = some (.int .u8 b5) := by go_simp
  have cf0 : w1.cell? ⟨w.heap.size + 1 + 1, 0, none⟩ = some (.int .u8 c0) := by go_simp
  have cf1 : w1.cell? ⟨w.heap.size + 1 + 1, 1, none⟩ = some (.int .u8 c1) := by go_simp
  have cf2 : w1.cell? ⟨w.heap.size + 1 + 1, 2, none⟩ = some (.int .u8 c2) := by go_simp
  have cf3 : w1.cell? ⟨w.heap.size + 1 + 1, 3, none⟩ = some (.int .u8 c3) := by go_simp
  have cf4 : w1.cell? ⟨w.heap.size + 1 + 1, 4, none⟩ = some (.int .u8 c4) := by go_simp
  have cf5 : w1.cell? ⟨w.heap.size + 1 + 1, 5, none⟩ = some (.int .u8 c5) := by go_simp
  have hz : w.heap.size + 2 < w1.heap.size := by have := hbe.size; simp at this; omega
  have hz1 : w.heap.size + 1 < w1.heap.size := by omega
  have hz0 : w.heap.size < w1.heap.size := by omega
  clear hbe hcc hff
  go_wp2_with fail
  go_region
  have hD := World.rowIs_alloc w1 #[.int .u8 a0, .int .u8 a1, .int .u8 a2, .int .u8 a3, .int .u8 a4, .int .u8 a5] 23 (fun i => .int .u8 ([a0, a1, a2, a3, a4, a5].getD i 0)) (by
    intro i hi; rcases (show i = 0 ∨ i = 1 ∨ i = 2 ∨ i = 3 ∨ i = 4 ∨ i = 5 by simp at hi; omega) with rfl | rfl | rfl | rfl | rfl | rfl <;> rfl)
  have HD : Hid ((w1.alloc (.cells #[.int .u8 a0, .int .u8 a1, .int .u8 a2, .int .u8 a3, .int .u8 a4, .int .u8 a5] 23)).drew.rowIs w1.heap.size 23 6 (fun i => .int .u8 ([a0, a1, a2, a3, a4, a5].getD i 0))) := hD.drew
  clear hD
  have HB2 := Lib.hid (show Below w.heap.size w (w1.alloc (.cells #[.int .u8 a0, .int .u8 a1, .int .u8 a2, .int .u8 a3, .int .u8 a4, .int .u8 a5] 23)).drew from (HB.out.alloc HB.out.size _).drew)
  have ag0 : (w1.alloc (.cells #[.int .u8 a0, .int .u8 a1, .int .u8 a2, .int .u8 a3, .int .u8 a4, .int .u8 a5] 23)).drew.cell? ⟨w.heap.size, 0, none⟩ = some (.int .u8 a0) := by go_simp
  have ag1 : (w1.alloc (.cells #[.int .u8 a0, .int .u8 a1, .int .u8 a2, .int .u8 a3, .int .u8 a4, .int .u8 a5] 23)).drew.cell? ⟨w.heap.size, 1, none⟩ = some (.int .u8 a1) := by go_simp
  have ag2 : (w1.alloc (.cells #[.int .u8 a0, .int .u8 a1, .int .u8 a2, .int .u8 a3, .int .u8 a4, .int .u8 a5] 23)).drew.cell? ⟨w.heap.size, 2, none⟩ = some (.int .u8 a2) := by go_simp
  have ag3 : (w1.alloc (.cells #[.int .u8 a0, .int .u8 a1, .int .u8 a2, .int .u8 a3, .int .u8 a4, .int .u8 a5] 23)).drew.cell? ⟨w.heap.size, 3, none⟩ = some (.int .u8 a3) := by go_simp
  have ag4 : (w1.alloc (.cells #[.int .u8 a0, .int .u8 a1, .int .u8 a2, .int .u8 a3, .int .u8 a4, .int .u8 a5] 23)).drew.cell? ⟨w.heap.size, 4, none⟩ = some (.int .u8 a4) := by go_simp
  have ag5 : (w1.alloc (.cells #[.int .u8 a0, .int .u8 a1, .int .u8 a2, .int .u8 a3, .int .u8 a4, .int .u8 a5] 23)).drew.cell? ⟨w.heap.size, 5, none⟩ = some (.int .u8 a5) := by go_simp
  have bg0 : (w1.alloc (.cells #[.int .u8 a0, .int .u8 a1, .int .u8 a2, .int .u8 a3, .int .u8 a4, .int .u8 a5] 23)).drew.cell? ⟨w.heap.size + 1, 0, none⟩ = some (.int .u8 b0) := by go_simp
  have bg1 : (w1.alloc (.cells #[.int .u8 a0, .int .u8 a1, .int .u8 a2, .int .u8 a3, .int .u8 a4, .int .u8 a5] 23)).drew.cell? ⟨w.heap.size + 1, 1, none⟩ = some (.int .u8 b1) := by go_simp
  have bg2 : (w1.alloc (.cells #[.int .u8 a0, .int .u8 a1, .int .u8 a2, .int .u8 a3, .int .u8 a4, .int .u8 a5] 23)).drew.cell? ⟨w.heap.size + 1, 2, none⟩ = some (.int .u8 b2) := by go_simp
  have bg3 : (w1.alloc (.cells #[.int .u8 a0, .int .u8 a1, .int .u8 a2, .int .u8 a3, .int .u8 a4, .int .u8 a5] 23)).drew.cell? ⟨w.heap.size + 1, 3, none⟩ = some (.int .u8 b3) := by go_simp
  have bg4 : (w1.alloc (.cells #[.int .u8 a0, .int .u8 a1, .int .u8 a2, .int .u8 a3, .int .u8 a4, .int .u8 a5] 23)).drew.cell? ⟨w.heap.size + 1, 4, none⟩ = some (.int .u8 b4) := by go_simp
  have bg5 : (w1.alloc (.cells #[.int .u8 a0, .int .u8 a1, .int .u8 a2, .int .u8 a3, .int .u8 a4, .int .u8 a5] 23)).drew.cell? ⟨w.heap.size + 1, 5, none⟩ = some (.int .u8 b5) := by go_simp
  have cg0 : (w1.alloc (.cells #[.int .u8 a0, .int .u8 a1, .int .u8 a2, .int .u8 a3, .int .u8 a4, .int .u8 a5] 23)).drew.cell? ⟨w.heap.size + 1 + 1, 0, none⟩ = some (.int .u8 c0) := by go_simp
  have cg1 : (w1.alloc (.cells #[.int .u8 a0, .int .u8 a1, .int .u8 a2, .int .u8 a3, .int .u8 a4, .int .u8 a5] 23)).drew.cell? ⟨w.heap.size + 1 + 1, 1, none⟩ = some (.int .u8 c1) := by go_simp
  have cg2 : (w1.alloc (.cells #[.int .u8 a0, .int .u8 a1, .int .u8 a2, .int .u8 a3, .int .u8 a4, .int .u8 a5] 23)).drew.cell? ⟨w.heap.size + 1 + 1, 2, none⟩ = some (.int .u8 c2) := by go_simp
  have cg3 : (w1.alloc (.cells #[.int .u8 a0, .int .u8 a1, .int .u8 a2, .int .u8 a3, .int .u8 a4, .int .u8 a5] 23)).drew.cell? ⟨w.heap.size + 1 + 1, 3, none⟩ = some (.int .u8 c3) := by go_simp
  have cg4 : (w1.alloc (.cells #[.int .u8 a0, .int .u8 a1, .int .u8 a2, .int .u8 a3, .int .u8 a4, .int .u8 a5] 23)).drew.cell? ⟨w.heap.size + 1 + 1, 4, none⟩ = some (.int .u8 c4) := by go_simp
  have cg5 : (w1.alloc (.cells #[.int .u8 a0, .int .u8 a1, .int .u8 a2, .int .u8 a3, .int .u8 a4, .int .u8 a5] 23)).drew.cell? ⟨w.heap.size + 1 + 1, 5, none⟩ = some (.int .u8 c5) := by go_simp
  clear af0 af1 af2 af3 af4 af5 bf0 bf1 bf2 bf3 bf4 bf5 cf0 cf1 cf2 cf3 cf4 cf5
  generalize (w1.alloc (.cells #[.int .u8 a0, .int .u8 a1, .int .u8 a2, .int .u8 a3, .int .u8 a4, .int .u8 a5] 23)).drew = W2 at *
  obtain ⟨q, hq, hq6⟩ : ∃ q : Nat, n % 6 = (q : Int) ∧ q < 6 := ⟨(n % 6).toNat, by omega, by omega⟩
  have bq : W2.cell? ⟨w.heap.size + 1, q, none⟩ = some (.int .u8 ([b0, b1, b2, b3, b4, b5].getD q 0)) := by
    rcases (show q = 0 ∨ q = 1 ∨ q = 2 ∨ q = 3 ∨ q = 4 ∨ q = 5 by omega) with rfl | rfl | rfl | rfl | rfl | rfl
    · exact bg0
    · exact bg1
    · exact bg2
    · exact bg3
    · exact bg4
    · exact bg5
  have dq := HD.out.cell hq6
  have dfz := HD.out.frozen q
  have hbv := hb.getD q
  generalize [b0, b1, b2, b3, b4, b5].getD q 0 = bv at *
  go_wp2_with fail
  have HD3 := HD.out.set q (.int .u8 bv)
  have dg0 : (W2.setCell ⟨w1.heap.size, q, none⟩ (.int .u8 bv)).cell? ⟨w1.heap.size, 0, none⟩ = some (.int .u8 (if 0 = q then bv else [a0, a1, a2, a3, a4, a5].getD 0 0)) := by
    rw [HD3.cell (i := 0) (by omega)]; split <;> rfl
  have dr0 : 0 ≤ (if 0 = q then bv else [a0, a1, a2, a3, a4, a5].getD 0 0) ∧ (if 0 = q then bv else [a0, a1, a2, a3, a4, a5].getD 0 0) < 256 := by
    split
    · exact hbv
    · exact ha.getD 0
  have dg1 : (W2.setCell ⟨w1.heap.size, q, none⟩ (.int .u8 bv)).cell? ⟨w1.heap.size, 1, none⟩ = some (.int .u8 (if 1 = q then bv else [a0, a1, a2, a3, a4, a5].getD 1 0)) := by
    rw [HD3.cell (i := 1) (by omega)]; split <;> rfl
  have dr1 : 0 ≤ (if 1 = q then bv else [a0, a1, a2, a3, a4, a5].getD 1 0) ∧ (if 1 = q then bv else [a0, a1, a2, a3, a4, a5].getD 1 0) < 256 := by
    split
    · exact hbv
    · exact ha.getD 1
  have dg2 : (W2.setCell ⟨w1.heap.size, q, none⟩ (.int .u8 bv)).cell? ⟨w1.heap.size, 2, none⟩ = some (.int .u8 (if 2 = q then bv else [a0, a1, a2, a3, a4, a5].getD 2 0)) := by
    rw [HD3.cell (i := 2) (by omega)]; split <;> rfl
  have dr2 : 0 ≤ (if 2 = q then bv else [a0, a1, a2, a3, a4, a5].getD 2 0) ∧ (if 2 = q then bv else [a0, a1, a2, a3, a4, a5].getD 2 0) < 256 := by
    split
    · exact hbv
    · exact ha.getD 2
  have dg3 : (W2.setCell ⟨w1.heap.size, q, none⟩ (.int .u8 bv)).cell? ⟨w1.heap.size, 3, none⟩ = some (.int .u8 (if 3 = q then bv else [a0, a1, a2, a3, a4, a5].getD 3 0)) := by
    rw [HD3.cell (i := 3) (by omega)]; split <;> rfl
  have dr3 : 0 ≤ (if 3 = q then bv else [a0, a1, a2, a3, a4, a5].getD 3 0) ∧ (if 3 = q then bv else [a0, a1, a2, a3, a4, a5].getD 3 0) < 256 := by
    split
    · exact hbv
    · exact ha.getD 3
  have dg4 : (W2.setCell ⟨w1.heap.size, q, none⟩ (.int .u8 bv)).cell? ⟨w1.heap.size, 4, none⟩ = some (.int .u8 (if 4 = q then bv else [a0, a1, a2, a3, a4, a5].getD 4 0)) := by
    rw [HD3.cell (i := 4) (by omega)]; split <;> rfl
  have dr4 : 0 ≤ (if 4 = q then bv else [a0, a1, a2, a3, a4, a5].getD 4 0) ∧ (if 4 = q then bv else [a0, a1, a2, a3, a4, a5].getD 4 0) < 256 := by
    split
    · exact hbv
    · exact ha.getD 4
  have dg5 : (W2.setCell ⟨w1.heap.size, q, none⟩ (.int .u8 bv)).cell? ⟨w1.heap.size, 5, none⟩ = some (.int .u8 (if 5 = q then bv else [a0, a1, a2, a3, a4, a5].getD 5 0)) := by
    rw [HD3.cell (i := 5) (by omega)]; split <;> rfl
  have dr5 : 0 ≤ (if 5 = q then bv else [a0, a1, a2, a3, a4, a5].getD 5 0) ∧ (if 5 = q then bv else [a0, a1, a2, a3, a4, a5].getD 5 0) < 256 := by
    split
    · exact hbv
    · exact ha.getD 5
  replace ag0 : (W2.setCell ⟨w1.heap.size, q, none⟩ (.int .u8 bv)).cell? ⟨w.heap.size, 0, none⟩ = some (.int .u8 a0) := by go_simp
  replace ag1 : (W2.setCell ⟨w1.heap.size, q, none⟩ (.int .u8 bv)).cell? ⟨w.heap.size, 1, none⟩ = some (.int .u8 a1) := by go_simp
  replace ag2 : (W2.setCell ⟨w1.heap.size, q, none⟩ (.int .u8 bv)).cell? ⟨w.heap.size, 2, none⟩ = some (.int .u8 a2) := by go_simp
  replace ag3 : (W2.setCell ⟨w1.heap.size, q, none⟩ (.int .u8 bv)).cell? ⟨w.heap.size, 3, none⟩ = some (.int .u8 a3) := by go_simp
  replace ag4 : (W2.setCell ⟨w1.heap.size, q, none⟩ (.int .u8 bv)).cell? ⟨w.heap.size, 4, none⟩ = some (.int .u8 a4) := by go_simp
  replace ag5 : (W2.setCell ⟨w1.heap.size, q, none⟩ (.int .u8 bv)).cell? ⟨w.heap.size, 5, none⟩ = some (.int .u8 a5) := by go_simp
  replace bg0 : (W2.setCell ⟨w1.heap.size, q, none⟩ (.int .u8 bv)).cell? ⟨w.heap.size + 1, 0, none⟩ = some (.int .u8 b0) := by go_simp
  replace bg1 : (W2.setCell ⟨w1.heap.size, q, none⟩ (.int .u8 bv)).cell? ⟨w.heap.size + 1, 1, none⟩ = some (.int .u8 b1) := by go_simp
  replace bg2 : (W2.setCell ⟨w1.heap.size, q, none⟩ (.int .u8 bv)).cell? ⟨w.heap.size + 1, 2, none⟩ = some (.int .u8 b2) := by go_simp
  replace bg3 : (W2.setCell ⟨w1.heap.size, q, none⟩ (.int .u8 bv)).cell? ⟨w.heap.size + 1, 3, none⟩ = some (.int .u8 b3) := by go_simp
  replace bg4 : (W2.setCell ⟨w1.heap.size, q, none⟩ (.int .u8 bv)).cell? ⟨w.heap.size + 1, 4, none⟩ = some (.int .u8 b4) := by go_simp
  replace bg5 : (W2.setCell ⟨w1.heap.size, q, none⟩ (.int .u8 bv)).cell? ⟨w.heap.size + 1, 5, none⟩ = some (.int .u8 b5) := by go_simp
  replace cg0 : (W2.setCell ⟨w1.heap.size, q, none⟩ (.int .u8 bv)).cell? ⟨w.heap.size + 1 + 1, 0, none⟩ = some (.int .u8 c0) := by go_simp
  replace cg1 : (W2.setCell ⟨w1.heap.size, q, none⟩ (.int .u8 bv)).cell? ⟨w.heap.size + 1 + 1, 1, none⟩ = some (.int .u8 c1) := by go_simp
  replace cg2 : (W2.setCell ⟨w1.heap.size, q, none⟩ (.int .u8 bv)).cell? ⟨w.heap.size + 1 + 1, 2, none⟩ = some (.int .u8 c2) := by go_simp
  replace cg3 : (W2.setCell ⟨w1.heap.size, q, none⟩ (.int .u8 bv)).cell? ⟨w.heap.size + 1 + 1, 3, none⟩ = some (.int .u8 c3) := by go_simp
  replace cg4 : (W2.setCell ⟨w1.heap.size, q, none⟩ (.int .u8 bv)).cell? ⟨w.heap.size + 1 + 1, 4, none⟩ = some (.int .u8 c4) := by go_simp
  replace cg5 : (W2.setCell ⟨w1.heap.size, q, none⟩ (.int .u8 bv)).cell? ⟨w.heap.size + 1 + 1, 5, none⟩ = some (.int .u8 c5) := by go_simp
  clear HD3
  generalize (if 0 = q then bv else [a0, a1, a2, a3, a4, a5].getD 0 0) = d0 at *
  generalize (if 1 = q then bv else [a0, a1, a2, a3, a4, a5].getD 1 0) = d1 at *
  generalize (if 2 = q then bv else [a0, a1, a2, a3, a4, a5].getD 2 0) = d2 at *
  generalize (if 3 = q then bv else [a0, a1, a2, a3, a4, a5].getD 3 0) = d3 at *
  generalize (if 4 = q then bv else [a0, a1, a2, a3, a4, a5].getD 4 0) = d4 at *
  generalize (if 5 = q then bv else [a0, a1, a2, a3, a4, a5].getD 5 0) = d5 at *
  have hd : Six d0 d1 d2 d3 d4 d5 := ⟨dr0.1, dr0.2, dr1.1, dr1.2, dr2.1, dr2.2, dr3.1, dr3.2, dr4.1, dr4.2, dr5.1, dr5.2⟩
  have HB3 := Lib.hid (show Below w.heap.size w (W2.setCell ⟨w1.heap.size, q, none⟩ (.int .u8 bv)) from HB2.out.setCell (by show w.heap.size ≤ w1.heap.size; omega) _)
  clear dr0 dr1 dr2 dr3 dr4 dr5 bq dq dfz hbv HD HB2 HB
  generalize (W2.setCell ⟨w1.heap.size, q, none⟩ (.int .u8 bv)) = W3 at *
  have HQ := Lib.hid hq
  clear hq
  have HAB := Lib.hid fun W => compare_any a0 a1 a2 a3 a4 a5 b0 b1 b2 b3 b4 b5 W ha.mem hb.mem
  have HBA := Lib.hid fun W => compare_any b0 b1 b2 b3 b4 b5 a0 a1 a2 a3 a4 a5 W hb.mem ha.mem
  have HAA := Lib.hid fun W => compare_any a0 a1 a2 a3 a4 a5 a0 a1 a2 a3 a4 a5 W ha.mem ha.mem
  have HAD := Lib.hid fun W => compare_any a0 a1 a2 a3 a4 a5 d0 d1 d2 d3 d4 d5 W ha.mem hd.mem
  have HBC := Lib.hid fun W => compare_any b0 b1 b2 b3 b4 b5 c0 c1 c2 c3 c4 c5 W hb.mem hc.mem
  have HAC := Lib.hid fun W => compare_any a0 a1 a2 a3 a4 a5 c0 c1 c2 c3 c4 c5 W ha.mem hc.mem
  rw [cmp_self] at HAA
  rw [cmp_neg [a0, a1, a2, a3, a4, a5] [b0, b1, b2, b3, b4, b5]] at HBA
  have HEQ := Lib.hid (cmp_zero [a0, a1, a2, a3, a4, a5] [d0, d1, d2, d3, d4, d5] rfl)
  have HLE := Lib.hid (cmp_le [a0, a1, a2, a3, a4, a5] [b0, b1, b2, b3, b4, b5] [c0, c1, c2, c3, c4, c5] rfl rfl)
  have HX := Lib.hid (cmp_bd [a0, a1, a2, a3, a4, a5] [b0, b1, b2, b3, b4, b5])
  have HE6 := Lib.hid fun W => run_eq6 a0 a1 a2 a3 a4 a5 d0 d1 d2 d3 d4 d5 W
  have HT := Lib.hid (show ∀ t, eq6 a0 a1 a2 a3 a4 a5 d0 d1 d2 d3 d4 d5 = t → (cmpI [a0, a1, a2, a3, a4, a5] [d0, d1, d2, d3, d4, d5] == 0) = t by
    intro t ht
    subst ht
    unfold eq6
    rw [Bool.eq_iff_iff, beq_iff_eq, decide_eq_true_eq, HEQ.out]
    simp)
  rw [show cmpI [a0, a1, a2, a3, a4, a5] [b0, b1, b2, b3, b4, b5] = cmpFrom [a0, a1, a2, a3, a4, a5] [b0, b1, b2, b3, b4, b5] 0 from rfl] at HAB HBA HX HLE
  clear ha hb hc hd HEQ
  go_loopw [9, 11] (fun v i wr => ∃ (k m : Nat), k ≤ 6 ∧ i = .int .i64 ((k : Int) - 1) ∧ v = .int .i64 (cmpFrom [a0, a1, a2, a3, a4, a5] [b0, b1, b2, b3, b4, b5] k) ∧ wr = W3.drewN m) (fun _ i _ => (intOf i + 1).toNat)
  case atStart => exact ⟨6, 0, by omega, rfl, rfl, rfl⟩
  case round =>
    obtain ⟨k, m, hk, rfl, rfl, rfl⟩ := hrel
    rcases (show k = 0 ∨ k = 1 ∨ k = 2 ∨ k = 3 ∨ k = 4 ∨ k = 5 ∨ k = 6 by omega) with rfl | rfl | rfl | rfl | rfl | rfl | rfl
    · generalize cmpFrom [a0, a1, a2, a3, a4, a5] [b0, b1, b2, b3, b4, b5] 0 = x at *
      generalize cmpI [b0, b1, b2, b3, b4, b5] [c0, c1, c2, c3, c4, c5] = y at *
      generalize cmpI [a0, a1, a2, a3, a4, a5] [c0, c1, c2, c3, c4, c5] = v at *
      have HT' := Lib.hid (HT.out _ rfl)
      clear HT
      generalize cmpI [a0, a1, a2, a3, a4, a5] [d0, d1, d2, d3, d4, d5] = z at *
      generalize eq6 a0 a1 a2 a3 a4 a5 d0 d1 d2 d3 d4 d5 = t at *
      obtain ⟨x0, x1⟩ := HX.out
      have HB4 := Lib.hid (bdrewN HB3.out m)
      go_wp2_with fail
      replace ag0 : (W3.drewN m).cell? ⟨w.heap.size, 0, none⟩ = some (.int .u8 a0) := by go_simp
      replace ag1 : (W3.drewN m).cell? ⟨w.heap.size, 1, none⟩ = some (.int .u8 a1) := by go_simp
      replace ag2 : (W3.drewN m).cell? ⟨w.heap.size, 2, none⟩ = some (.int .u8 a2) := by go_simp
      replace ag3 : (W3.drewN m).cell? ⟨w.heap.size, 3, none⟩ = some (.int .u8 a3) := by go_simp
      replace ag4 : (W3.drewN m).cell? ⟨w.heap.size, 4, none⟩ = some (.int .u8 a4) := by go_simp
      replace ag5 : (W3.drewN m).cell? ⟨w.heap.size, 5, none⟩ = some (.int .u8 a5) := by go_simp
      replace bg0 : (W3.drewN m).cell? ⟨w.heap.size + 1, 0, none⟩ = some (.int .u8 b0) := by go_simp
      replace bg1 : (W3.drewN m).cell? ⟨w.heap.size + 1, 1, none⟩ = some (.int .u8 b1) := by go_simp
      replace bg2 : (W3.drewN m).cell? ⟨w.heap.size + 1, 2, none⟩ = some (.int .u8 b2) := by go_simp
      replace bg3 : (W3.drewN m).cell? ⟨w.heap.size + 1, 3, none⟩ = some (.int .u8 b3) := by go_simp
      replace bg4 : (W3.drewN m).cell? ⟨w.heap.size + 1, 4, none⟩ = some (.int .u8 b4) := by go_simp
      replace bg5 : (W3.drewN m).cell? ⟨w.heap.size + 1, 5, none⟩ = some (.int .u8 b5) := by go_simp
      replace cg0 : (W3.drewN m).cell? ⟨w.heap.size + 1 + 1, 0, none⟩ = some (.int .u8 c0) := by go_simp
      replace cg1 : (W3.drewN m).cell? ⟨w.heap.size + 1 + 1, 1, none⟩ = some (.int .u8 c1) := by go_simp
      replace cg2 : (W3.drewN m).cell? ⟨w.heap.size + 1 + 1, 2, none⟩ = some (.int .u8 c2) := by go_simp
      replace cg3 : (W3.drewN m).cell? ⟨w.heap.size + 1 + 1, 3, none⟩ = some (.int .u8 c3) := by go_simp
      replace cg4 : (W3.drewN m).cell? ⟨w.heap.size + 1 + 1, 4, none⟩ = some (.int .u8 c4) := by go_simp
      replace cg5 : (W3.drewN m).cell? ⟨w.heap.size + 1 + 1, 5, none⟩ = some (.int .u8 c5) := by go_simp
      replace dg0 : (W3.drewN m).cell? ⟨w1.heap.size, 0, none⟩ = some (.int .u8 d0) := by go_simp
      replace dg1 : (W3.drewN m).cell? ⟨w1.heap.size, 1, none⟩ = some (.int .u8 d1) := by go_simp
      replace dg2 : (W3.drewN m).cell? ⟨w1.heap.size, 2, none⟩ = some (.int .u8 d2) := by go_simp
      replace dg3 : (W3.drewN m).cell? ⟨w1.heap.size, 3, none⟩ = some (.int .u8 d3) := by go_simp
      replace dg4 : (W3.drewN m).cell? ⟨w1.heap.size, 4, none⟩ = some (.int .u8 d4) := by go_simp
      replace dg5 : (W3.drewN m).cell? ⟨w1.heap.size, 5, none⟩ = some (.int .u8 d5) := by go_simp
      generalize W3.drewN m = W4 at *
      have ah0 := cell_regrown ag0
      have ah1 := cell_regrown ag1
      have ah2 := cell_regrown ag2
      have ah3 := cell_regrown ag3
      have ah4 := cell_regrown ag4
      have ah5 := cell_regrown ag5
      have bh0 := cell_regrown bg0
      have bh1 := cell_regrown bg1
      have bh2 := cell_regrown bg2
      have bh3 := cell_regrown bg3
      have bh4 := cell_regrown bg4
      have bh5 := cell_regrown bg5
      have ch0 := cell_regrown cg0
      have ch1 := cell_regrown cg1
      have ch2 := cell_regrown cg2
      have ch3 := cell_regrown cg3
      have ch4 := cell_regrown cg4
      have ch5 := cell_regrown cg5
      have dh0 := cell_regrown dg0
      have dh1 := cell_regrown dg1
      have dh2 := cell_regrown dg2
      have dh3 := cell_regrown dg3
      have dh4 := cell_regrown dg4
      have dh5 := cell_regrown dg5
      have CAB := Lib.hid fun (d : Nat) (os : Array Obj) => Calls.regrown_of (HAB.out (Sort.grow (redrawn W4 d) os))
      have CBA := Lib.hid fun (d : Nat) (os : Array Obj) => Calls.regrown_of (HBA.out (Sort.grow (redrawn W4 d) os))
      have CAA := Lib.hid fun (d : Nat) (os : Array Obj) => Calls.regrown_of (HAA.out (Sort.grow (redrawn W4 d) os))
      have CAD := Lib.hid fun (d : Nat) (os : Array Obj) => Calls.regrown_of (HAD.out (Sort.grow (redrawn W4 d) os))
      have wx : IntKind.i64.wrap (-x) = -x := IntWalk.i64_in _ (by omega)
      have he := HE6.out
      have ht := HT'.out
      cases t
      all_goals
        refine wp_region_quiet_below (by kernel_rfl) (by kernel_rfl) ?_
        repeat (go_big_quiet_step ((go_at_call 14; first | (with_reducible exact CAB.out _ _) | (with_reducible exact CBA.out _ _) | (with_reducible exact CAA.out _ _) | (with_reducible exact CAD.out _ _))))
        refine wpQuiet_nil ?_
        intro _ hw'
        obtain ⟨⟨dq, osq⟩, hw''⟩ := hw'
        subst hw''
        have HB7 := Lib.hid (bthen HB4.out (below_regrown W4 dq osq))
        replace ah0 := ah0 dq osq
        replace ah1 := ah1 dq osq
        replace ah2 := ah2 dq osq
        replace ah3 := ah3 dq osq
        replace ah4 := ah4 dq osq
        replace ah5 := ah5 dq osq
        replace bh0 := bh0 dq osq
        replace bh1 := bh1 dq osq
        replace bh2 := bh2 dq osq
        replace bh3 := bh3 dq osq
        replace bh4 := bh4 dq osq
        replace bh5 := bh5 dq osq
        replace ch0 := ch0 dq osq
        replace ch1 := ch1 dq osq
        replace ch2 := ch2 dq osq
        replace ch3 := ch3 dq osq
        replace ch4 := ch4 dq osq
        replace ch5 := ch5 dq osq
        have hs7 := (below_regrown W4 dq osq).size
        have hs4 : w.heap.size + 1 + 1 < W4.heap.size := block_lt_of_cell cg0
        clear CAB CBA CAA CAD he ht wx ag0 ag1 ag2 ag3 ag4 ag5 bg0 bg1 bg2 bg3 bg4 bg5 cg0 cg1 cg2 cg3 cg4 cg5 dg0 dg1 dg2 dg3 dg4 dg5 dh0 dh1 dh2 dh3 dh4 dh5
        generalize Sort.grow (redrawn W4 dq) osq = W7 at *
        by_cases r1 : 0 < x
        · go_wp2_with fail
          refine (HAB.out _).mono ?_
          rintro e w8 ⟨rfl, hb8⟩
          have HB8 := Lib.hid (bthen HB7.out hb8)
          clear hb8
          go_wp2_with fail
          go_ret
          exact ⟨rfl, HB8.out⟩
        · go_wp2_with fail
          refine (HAB.out _).mono ?_
          rintro e w8 ⟨rfl, hb8⟩
          have HB8 := Lib.hid (bthen HB7.out hb8)
          have p0 : w.heap.size < W7.heap.size := by omega
          have p1 : w.heap.size + 1 < W7.heap.size := by omega
          have p2 : w.heap.size + 1 + 1 < W7.heap.size := by omega
          have q0 : w.heap.size < w8.heap.size := by have := hb8.size; omega
          have q1 : w.heap.size + 1 < w8.heap.size := by have := hb8.size; omega
          have q2 : w.heap.size + 1 + 1 < w8.heap.size := by have := hb8.size; omega
          obtain ⟨hc8, hf8⟩ := bcell hb8
          clear hb8
          by_cases r2 : 0 < y
          · go_wp2_with fail
            refine (HBC.out _).mono ?_
            rintro e w9 ⟨rfl, hb9⟩
            have HB9 := Lib.hid (bthen HB8.out hb9)
            clear hb9
            go_wp2_with fail
            go_ret
            exact ⟨rfl, HB9.out⟩
          · have r3 : v ≤ 0 := HLE.out (by omega) (by omega)
            go_wp2_with fail
            refine (HBC.out _).mono ?_
            rintro e w9 ⟨rfl, hb9⟩
            have HB9 := Lib.hid (bthen HB8.out hb9)
            obtain ⟨hc9, hf9⟩ := bcell hb9
            clear hb9
            go_wp2_with fail
            refine (HAC.out _).mono ?_
            rintro e w10 ⟨rfl, hb10⟩
            have HB10 := Lib.hid (bthen HB9.out hb10)
            clear hb10
            go_wp2_with fail
            go_ret
            exact ⟨rfl, HB10.out⟩
    · have HS := Lib.hid (cmpFrom_step [a0, a1, a2, a3, a4, a5] [b0, b1, b2, b3, b4, b5] 0 (by simp) (by simp))
      clear HX HLE HT HE6 HAB HBA HAA HAD HBC HAC
      generalize cmpFrom [a0, a1, a2, a3, a4, a5] [b0, b1, b2, b3, b4, b5] 1 = x at *
      rcases (show a0 < b0 ∨ b0 < a0 ∨ a0 = b0 by omega) with g | g | g
      · have HV := Lib.hid (show cmpFrom [a0, a1, a2, a3, a4, a5] [b0, b1, b2, b3, b4, b5] 0 = -1 by rw [HS.out]; exact if_pos g)
        have g1 : ¬ b0 < a0 := by omega
        go_wp2_with fail
        go_quiet (fail)
        go_wp2_with fail
        go_quiet (fail)
        go_wp2_with fail
        go_roundw
        case rel => exact ⟨0, _, by omega, by first | rfl | go_num, by rw [HV.out], rfl⟩
        case measure => simp [intOf]
      · have g1 : ¬ a0 < b0 := by omega
        have HV := Lib.hid (show cmpFrom [a0, a1, a2, a3, a4, a5] [b0, b1, b2, b3, b4, b5] 0 = 1 by rw [HS.out]; exact (if_neg g1).trans (if_pos g))
        go_wp2_with fail
        go_quiet (fail)
        go_wp2_with fail
        go_quiet (fail)
        go_wp2_with fail
        go_roundw
        case rel => exact ⟨0, _, by omega, by first | rfl | go_num, by rw [HV.out], rfl⟩
        case measure => simp [intOf]
      · have g1 : ¬ a0 < b0 := by omega
        have g2 : ¬ b0 < a0 := by omega
        have HV := Lib.hid (show cmpFrom [a0, a1, a2, a3, a4, a5] [b0, b1, b2, b3, b4, b5] 0 = x by rw [HS.out]; exact (if_neg g1).trans (if_neg g2))
        clear g
        go_wp2_with fail
        go_quiet (fail)
        go_wp2_with fail
        go_quiet (fail)
        go_wp2_with fail
        go_roundw
        case rel => exact ⟨0, _, by omega, by first | rfl | go_num, by rw [HV.out], rfl⟩
        case measure => simp [intOf]
    · have HS := Lib.hid (cmpFrom_step [a0, a1, a2, a3, a4, a5] [b0, b1, b2, b3, b4, b5] 1 (by simp) (by simp))
      clear HX HLE HT HE6 HAB HBA HAA HAD HBC HAC
      generalize cmpFrom [a0, a1, a2, a3, a4, a5] [b0, b1, b2, b3, b4, b5] 2 = x at *
      rcases (show a1 < b1 ∨ b1 < a1 ∨ a1 = b1 by omega) with g | g | g
      · have HV := Lib.hid (show cmpFrom [a0, a1, a2, a3, a4, a5] [b0, b1, b2, b3, b4, b5] 1 = -1 by rw [HS.out]; exact if_pos g)
        have g1 : ¬ b1 < a1 := by omega
        go_wp2_with fail
        go_quiet (fail)
        go_wp2_with fail
        go_quiet (fail)
        go_wp2_with fail
        go_roundw
        case rel => exact ⟨1, _, by omega, by first | rfl | go_num, by rw [HV.out], rfl⟩
        case measure => simp [intOf]
      · have g1 : ¬ a1 < b1 := by omega
        have HV := Lib.hid (show cmpFrom [a0, a1, a2, a3, a4, a5] [b0, b1, b2, b3, b4, b5] 1 = 1 by rw [HS.out]; exact (if_neg g1).trans (if_pos g))
        go_wp2_with fail
        go_quiet (fail)
        go_wp2_with fail
        go_quiet (fail)
        go_wp2_with fail
        go_roundw
        case rel => exact ⟨1, _, by omega, by first | rfl | go_num, by rw [HV.out], rfl⟩
        case measure => simp [intOf]
      · have g1 : ¬ a1 < b1 := by omega
        have g2 : ¬ b1 < a1 := by omega
        have HV := Lib.hid (show cmpFrom [a0, a1, a2, a3, a4, a5] [b0, b1, b2, b3, b4, b5] 1 = x by rw [HS.out]; exact (if_neg g1).trans (if_neg g2))
        clear g
        go_wp2_with fail
        go_quiet (fail)
        go_wp2_with fail
        go_quiet (fail)
        go_wp2_with fail
        go_roundw
        case rel => exact ⟨1, _, by omega, by first | rfl | go_num, by rw [HV.out], rfl⟩
        case measure => simp [intOf]
    · have HS := Lib.hid (cmpFrom_step [a0, a1, a2, a3, a4, a5] [b0, b1, b2, b3, b4, b5] 2 (by simp) (by simp))
      clear HX HLE HT HE6 HAB HBA HAA HAD HBC HAC
      generalize cmpFrom [a0, a1, a2, a3, a4, a5] [b0, b1, b2, b3, b4, b5] 3 = x at *
      rcases (show a2 < b2 ∨ b2 < a2 ∨ a2 = b2 by omega) with g | g | g
      · have HV := Lib.hid (show cmpFrom [a0, a1, a2, a3, a4, a5] [b0, b1, b2, b3, b4, b5] 2 = -1 by rw [HS.out]; exact if_pos g)
        have g1 : ¬ b2 < a2 := by omega
        go_wp2_with fail
        go_quiet (fail)
        go_wp2_with fail
        go_quiet (fail)
        go_wp2_with fail
        go_roundw
        case rel => exact ⟨2, _, by omega, by first | rfl | go_num, by rw [HV.out], rfl⟩
        case measure => simp [intOf]
      · have g1 : ¬ a2 < b2 := by omega
        have HV := Lib.hid (show cmpFrom [a0, a1, a2, a3, a4, a5] [b0, b1, b2, b3, b4, b5] 2 = 1 by rw [HS.out]; exact (if_neg g1).trans (if_pos g))
        go_wp2_with fail
        go_quiet (fail)
        go_wp2_with fail
        go_quiet (fail)
        go_wp2_with fail
        go_roundw
        case rel => exact ⟨2, _, by omega, by first | rfl | go_num, by rw [HV.out], rfl⟩
        case measure => simp [intOf]
      · have g1 : ¬ a2 < b2 := by omega
        have g2 : ¬ b2 < a2 := by omega
        have HV := Lib.hid (show cmpFrom [a0, a1, a2, a3, a4, a5] [b0, b1, b2, b3, b4, b5] 2 = x by rw [HS.out]; exact (if_neg g1).trans (if_neg g2))
        clear g
        go_wp2_with fail
        go_quiet (fail)
        go_wp2_with fail
        go_quiet (fail)
        go_wp2_with fail
        go_roundw
        case rel => exact ⟨2, _, by omega, by first | rfl | go_num, by rw [HV.out], rfl⟩
        case measure => simp [intOf]
    · have HS := Lib.hid (cmpFrom_step [a0, a1, a2, a3, a4, a5] [b0, b1, b2, b3, b4, b5] 3 (by simp) (by simp))
      clear HX HLE HT HE6 HAB HBA HAA HAD HBC HAC
      generalize cmpFrom [a0, a1, a2, a3, a4, a5] [b0, b1, b2, b3, b4, b5] 4 = x at *
      rcases (show a3 < b3 ∨ b3 < a3 ∨ a3 = b3 by omega) with g | g | g
      · have HV := Lib.hid (show cmpFrom [a0, a1, a2, a3, a4, a5] [b0, b1, b2, b3, b4, b5] 3 = -1 by rw [HS.out]; exact if_pos g)
        have g1 : ¬ b3 < a3 := by omega
        go_wp2_with fail
        go_quiet (fail)
        go_wp2_with fail
        go_quiet (fail)
        go_wp2_with fail
        go_roundw
        case rel => exact ⟨3, _, by omega, by first | rfl | go_num, by rw [HV.out], rfl⟩
        case measure => simp [intOf]
      · have g1 : ¬ a3 < b3 := by omega
        have HV := Lib.hid (show cmpFrom [a0, a1, a2, a3, a4, a5] [b0, b1, b2, b3, b4, b5] 3 = 1 by rw [HS.out]; exact (if_neg g1).trans (if_pos g))
        go_wp2_with fail
        go_quiet (fail)
        go_wp2_with fail
        go_quiet (fail)
        go_wp2_with fail
        go_roundw
        case rel => exact ⟨3, _, by omega, by first | rfl | go_num, by rw [HV.out], rfl⟩
        case measure => simp [intOf]
      · have g1 : ¬ a3 < b3 := by omega
        have g2 : ¬ b3 < a3 := by omega
        have HV := Lib.hid (show cmpFrom [a0, a1, a2, a3, a4, a5] [b0, b1, b2, b3, b4, b5] 3 = x by rw [HS.out]; exact (if_neg g1).trans (if_neg g2))
        clear g
        go_wp2_with fail
        go_quiet (fail)
        go_wp2_with fail
        go_quiet (fail)
        go_wp2_with fail
        go_roundw
        case rel => exact ⟨3, _, by omega, by first | rfl | go_num, by rw [HV.out], rfl⟩
        case measure => simp [intOf]
    · have HS := Lib.hid (cmpFrom_step [a0, a1, a2, a3, a4, a5] [b0, b1, b2, b3, b4, b5] 4 (by simp) (by simp))
      clear HX HLE HT HE6 HAB HBA HAA HAD HBC HAC
      generalize cmpFrom [a0, a1, a2, a3, a4, a5] [b0, b1, b2, b3, b4, b5] 5 = x at *
      rcases (show a4 < b4 ∨ b4 < a4 ∨ a4 = b4 by omega) with g | g | g
      · have HV := Lib.hid (show cmpFrom [a0, a1, a2, a3, a4, a5] [b0, b1, b2, b3, b4, b5] 4 = -1 by rw [HS.out]; exact if_pos g)
        have g1 : ¬ b4 < a4 := by omega
        go_wp2_with fail
        go_quiet (fail)
        go_wp2_with fail
        go_quiet (fail)
        go_wp2_with fail
        go_roundw
        case rel => exact ⟨4, _, by omega, by first | rfl | go_num, by rw [HV.out], rfl⟩
        case measure => simp [intOf]
      · have g1 : ¬ a4 < b4 := by omega
        have HV := Lib.hid (show cmpFrom [a0, a1, a2, a3, a4, a5] [b0, b1, b2, b3, b4, b5] 4 = 1 by rw [HS.out]; exact (if_neg g1).trans (if_pos g))
        go_wp2_with fail
        go_quiet (fail)
        go_wp2_with fail
        go_quiet (fail)
        go_wp2_with fail
        go_roundw
        case rel => exact ⟨4, _, by omega, by first | rfl | go_num, by rw [HV.out], rfl⟩
        case measure => simp [intOf]
      · have g1 : ¬ a4 < b4 := by omega
        have g2 : ¬ b4 < a4 := by omega
        have HV := Lib.hid (show cmpFrom [a0, a1, a2, a3, a4, a5] [b0, b1, b2, b3, b4, b5] 4 = x by rw [HS.out]; exact (if_neg g1).trans (if_neg g2))
        clear g
        go_wp2_with fail
        go_quiet (fail)
        go_wp2_with fail
        go_quiet (fail)
        go_wp2_with fail
        go_roundw
        case rel => exact ⟨4, _, by omega, by first | rfl | go_num, by rw [HV.out], rfl⟩
        case measure => simp [intOf]
    · have HS := Lib.hid (cmpFrom_step [a0, a1, a2, a3, a4, a5] [b0, b1, b2, b3, b4, b5] 5 (by simp) (by simp))
      clear HX HLE HT HE6 HAB HBA HAA HAD HBC HAC
      generalize cmpFrom [a0, a1, a2, a3, a4, a5] [b0, b1, b2, b3, b4, b5] 6 = x at *
      rcases (show a5 < b5 ∨ b5 < a5 ∨ a5 = b5 by omega) with g | g | g
      · have HV := Lib.hid (show cmpFrom [a0, a1, a2, a3, a4, a5] [b0, b1, b2, b3, b4, b5] 5 = -1 by rw [HS.out]; exact if_pos g)
        have g1 : ¬ b5 < a5 := by omega
        go_wp2_with fail
        go_quiet (fail)
        go_wp2_with fail
        go_quiet (fail)
        go_wp2_with fail
        go_roundw
        case rel => exact ⟨5, _, by omega, by first | rfl | go_num, by rw [HV.out], rfl⟩
        case measure => simp [intOf]
      · have g1 : ¬ a5 < b5 := by omega
        have HV := Lib.hid (show cmpFrom [a0, a1, a2, a3, a4, a5] [b0, b1, b2, b3, b4, b5] 5 = 1 by rw [HS.out]; exact (if_neg g1).trans (if_pos g))
        go_wp2_with fail
        go_quiet (fail)
        go_wp2_with fail
        go_quiet (fail)
        go_wp2_with fail
        go_roundw
        case rel => exact ⟨5, _, by omega, by first | rfl | go_num, by rw [HV.out], rfl⟩
        case measure => simp [intOf]
      · have g1 : ¬ a5 < b5 := by omega
        have g2 : ¬ b5 < a5 := by omega
        have HV := Lib.hid (show cmpFrom [a0, a1, a2, a3, a4, a5] [b0, b1, b2, b3, b4, b5] 5 = x by rw [HS.out]; exact (if_neg g1).trans (if_neg g2))
        clear g
        go_wp2_with fail
        go_quiet (fail)
        go_wp2_with fail
        go_quiet (fail)
        go_wp2_with fail
        go_roundw
        case rel => exact ⟨5, _, by omega, by first | rfl | go_num, by rw [HV.out], rfl⟩
        case measure => simp [intOf]
end Go.Proofs.Ytncjleleeananaa
