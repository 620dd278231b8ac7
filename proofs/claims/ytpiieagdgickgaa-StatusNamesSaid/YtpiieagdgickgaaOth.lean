/-
  The contracts of status.anyOther and status.stationsOf. Conditions: the rows lie in memory.
-/
import Derived.Test.YtpiieagdgickgaaClk
import Derived.Test.YtpiieagdgickgaaCat
set_option linter.unusedSimpArgs false
set_option linter.unusedVariables false
namespace Go.Proofs.Ytpiieagdgickgaa
open Go.RowKit

/-- Whether one of the stations is another one. -/
def anyO (xs : List Mc) (m : Mc) : Bool := xs.any fun x => !eqm x m
theorem anyO_yes {xs : List Mc} {m x : Mc} {k : Nat} (h : xs[k]? = some x) (he : eqm x m = false) : anyO xs m = true := by
  unfold anyO
  rw [List.any_eq_true]
  exact ⟨x, List.mem_of_getElem? h, by rw [he]; rfl⟩
theorem anyO_take (xs : List Mc) (m : Mc) (k : Nat) {x : Mc} (h : xs[k]? = some x) : anyO (xs.take (k + 1)) m = (anyO (xs.take k) m || !eqm x m) := by
  unfold anyO
  rw [List.take_add_one, h, List.any_append]
  simp

set_option maxRecDepth 100000 in
set_option maxHeartbeats 2000000 in
theorem anyOther_any (m : Mc) (A : Option Addr) (xs : List Mc) (cap : Nat) (w : World) (h : Rw eM w A xs) (hc : xs.length ≤ cap) :
    Calls Try.prog 19 #[.slice A xs.length cap, mv m] w fun e w' => e = .returned (.bool (anyO xs m)) ∧ Below w.heap.size w w' := by
  have hln := h.1
  have R := Lib.hid h
  have HT := Lib.hid (fun (k : Nat) (x : Mc) (h : xs[k]? = some x) => anyO_take xs m k h)
  have HY := Lib.hid (fun (k : Nat) (x : Mc) (h : xs[k]? = some x) (he : eqm x m = false) => anyO_yes h he)
  obtain ⟨L, hL⟩ : ∃ L, xs.length = L := ⟨_, rfl⟩
  have HL := Lib.hid hL
  rw [hL] at hc hln ⊢
  have HZ := Lib.hid (show anyO (xs.take L) m = anyO xs m by rw [← hL, List.take_length])
  clear hL h
  have HB0 := Lib.hid (show Below w.heap.size w (w.alloc (Mx m)) from (Below.refl _ w).alloc (Nat.le_refl _) _)
  obtain ⟨c0, c1, c2, c3, c4, c5⟩ := m
  simp only [mv, Mx] at HB0 ⊢
  go_enter Try.func19, Try.ntmps19
  go_wp2_with fail
  go_loopw [9] (fun i wr => ∃ k : Nat, i = .int .i64 k ∧ k ≤ L ∧ Hid (anyO (xs.take k) ⟨c0, c1, c2, c3, c4, c5⟩ = false ∧ Below (w.alloc (.cells #[.int .u8 c0, .int .u8 c1, .int .u8 c2, .int .u8 c3, .int .u8 c4, .int .u8 c5] 35)).heap.size (w.alloc (.cells #[.int .u8 c0, .int .u8 c1, .int .u8 c2, .int .u8 c3, .int .u8 c4, .int .u8 c5] 35)) wr)) (fun i _ => L - (intOf i).toNat)
  case atStart => exact ⟨0, rfl, by omega, Lib.hid ⟨rfl, Below.refl _ _⟩⟩
  case round =>
    obtain ⟨k, rfl, hk, HH⟩ := hrel
    by_cases hlt : k < L
    · obtain ⟨x, hx⟩ : ∃ x, xs[k]? = some x := ⟨_, List.getElem?_eq_getElem (by rw [HL.out]; exact hlt)⟩
      have RR := (R.out.below HB0.out).below HH.out.2
      obtain ⟨y, rfl⟩ := rw_some RR (by rw [HL.out]; omega)
      have hat := RR.at hx
      obtain ⟨a0, a1, a2, a3, a4, a5⟩ := x
      have HXT := Lib.hid (HT.out k _ hx)
      have HXY := Lib.hid (HY.out k _ hx)
      have hq := fun W => run_eq6 a0 a1 a2 a3 a4 a5 c0 c1 c2 c3 c4 c5 9998 W
      obtain ⟨e, he⟩ : ∃ e, eq6 a0 a1 a2 a3 a4 a5 c0 c1 c2 c3 c4 c5 = e := ⟨_, rfl⟩
      rw [he] at hq
      have HE := Lib.hid (show eqm ⟨a0, a1, a2, a3, a4, a5⟩ ⟨c0, c1, c2, c3, c4, c5⟩ = e from he)
      have hsz : w.heap.size < wr.heap.size := by have := HH.out.2.size; simp at this; omega
      have b0 : wr.cell? ⟨w.heap.size, 0, none⟩ = some (.int .u8 c0) := by rw [HH.out.2.cell (p := ⟨w.heap.size, 0, none⟩) (by simp)]; simp
      have b1 : wr.cell? ⟨w.heap.size, 1, none⟩ = some (.int .u8 c1) := by rw [HH.out.2.cell (p := ⟨w.heap.size, 1, none⟩) (by simp)]; simp
      have b2 : wr.cell? ⟨w.heap.size, 2, none⟩ = some (.int .u8 c2) := by rw [HH.out.2.cell (p := ⟨w.heap.size, 2, none⟩) (by simp)]; simp
      have b3 : wr.cell? ⟨w.heap.size, 3, none⟩ = some (.int .u8 c3) := by rw [HH.out.2.cell (p := ⟨w.heap.size, 3, none⟩) (by simp)]; simp
      have b4 : wr.cell? ⟨w.heap.size, 4, none⟩ = some (.int .u8 c4) := by rw [HH.out.2.cell (p := ⟨w.heap.size, 4, none⟩) (by simp)]; simp
      have b5 : wr.cell? ⟨w.heap.size, 5, none⟩ = some (.int .u8 c5) := by rw [HH.out.2.cell (p := ⟨w.heap.size, 5, none⟩) (by simp)]; simp
      have HA := Lib.hid (HH.out.2.alloc HH.out.2.size (.cells #[.int .u8 a0, .int .u8 a1, .int .u8 a2, .int .u8 a3, .int .u8 a4, .int .u8 a5] 35))
      clear hx he RR
      cases e
      · go_wp2_with (refine at_load35 _ rfl rfl _ _ rfl hat ?_)
        go_ret
        exact ⟨ret_bool (by rw [HXY.out HE.out]), bthen HB0.out HA.out HB0.out.size⟩
      · go_wp2_with (refine at_load35 _ rfl rfl _ _ rfl hat ?_)
        go_roundw
        case rel => exact ⟨k + 1, by go_num, by omega, Lib.hid ⟨by rw [HXT.out, HH.out.1, HE.out]; rfl, HA.out⟩⟩
        case measure => simp [intOf]; omega
    · obtain rfl : k = L := by omega
      go_wp2_with fail
      go_ret
      exact ⟨ret_bool (by rw [← HZ.out, HH.out.1]), bthen HB0.out HH.out.2 HB0.out.size⟩
end Go.Proofs.Ytpiieagdgickgaa
