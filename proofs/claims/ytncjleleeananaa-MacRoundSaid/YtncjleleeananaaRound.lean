/-
  The walk of MacRound: called at any two numbers it returns true and changes nothing that was in memory.
-/
import Derived.Test.YtncjleleeananaaAwake
namespace Go.Proofs.Ytncjleleeananaa
open Go.RowKit

theorem bytes_ext {x y : ByteArray} (h : x.toList = y.toList) : x = y := by
  rw [Lib.toList_data, Lib.toList_data] at h
  exact ByteArray.ext (Array.toList_inj.1 h)
def cells6 (b0 b1 b2 b3 b4 b5 : Int) : Obj := .cells #[.int .u8 b0, .int .u8 b1, .int .u8 b2, .int .u8 b3, .int .u8 b4, .int .u8 b5] 23

set_option maxHeartbeats 1000000 in
theorem macRound_walk (a0 a1 a2 a3 a4 a5 b0 b1 b2 b3 b4 b5 : Int) (w : World) (ha : Six a0 a1 a2 a3 a4 a5) (hb : Six b0 b1 b2 b3 b4 b5) :
    Calls Try.prog 7 #[.agg #[.int .u8 a0, .int .u8 a1, .int .u8 a2, .int .u8 a3, .int .u8 a4, .int .u8 a5], .agg #[.int .u8 b0, .int .u8 b1, .int .u8 b2, .int .u8 b3, .int .u8 b4, .int .u8 b5]] w fun e w' => e = .returned (.bool true) ∧ Below w.heap.size w w' := by
  have HTa := Lib.hid fun W => text_six a0 a1 a2 a3 a4 a5 W ha
  have HTb := Lib.hid fun W => text_six b0 b1 b2 b3 b4 b5 W hb
  have hq : ∀ t, eq6 a0 a1 a2 a3 a4 a5 b0 b1 b2 b3 b4 b5 = t → ((strOf (txg 58 (fun _ => false) [a0, a1, a2, a3, a4, a5] 6)).toList == (strOf (txg 58 (fun _ => false) [b0, b1, b2, b3, b4, b5] 6)).toList) = t := by
    intro t ht
    subst ht
    unfold eq6
    rw [Bool.eq_iff_iff, beq_iff_eq, decide_eq_true_eq]
    exact ⟨fun h => text_inj ha hb (bytes_ext h), fun ⟨h0, h1, h2, h3, h4, h5⟩ => by rw [h0, h1, h2, h3, h4, h5]⟩
  have hl : (((strOf (txg 58 (fun _ => false) [a0, a1, a2, a3, a4, a5] 6)).size : Int) == 17) = true := by rw [str_size]; rfl
  have he := fun W => run_eq6 a0 a1 a2 a3 a4 a5 b0 b1 b2 b3 b4 b5 W
  clear ha hb
  generalize strOf (txg 58 (fun _ => false) [a0, a1, a2, a3, a4, a5] 6) = A at *
  generalize strOf (txg 58 (fun _ => false) [b0, b1, b2, b3, b4, b5] 6) = B at *
  generalize eq6 a0 a1 a2 a3 a4 a5 b0 b1 b2 b3 b4 b5 = t at *
  replace hq := hq t rfl
  have HQ := Lib.hid hq
  have HL := Lib.hid hl
  have HE := Lib.hid he
  clear hq hl he
  cases t
  all_goals
    go_enter Try.func7, Try.ntmps7
    go_wp2_with fail
    refine (awake_any _).mono ?_
    rintro e w1 ⟨rfl, hb⟩
    have HB := Lib.hid (show Below w.heap.size w w1 from (((Below.refl _ w).alloc (Nat.le_refl _) _).alloc (by simp) _).trans (hb.mono (by simp; omega)))
    obtain ⟨hc, hf⟩ := bcell hb
    clear hb
    go_wp2_with fail
    have f0 : w1.cell? ⟨w.heap.size, 0, none⟩ = some (.int .u8 a0) := by go_simp
    have f1 : w1.cell? ⟨w.heap.size, 1, none⟩ = some (.int .u8 a1) := by go_simp
    have f2 : w1.cell? ⟨w.heap.size, 2, none⟩ = some (.int .u8 a2) := by go_simp
    have f3 : w1.cell? ⟨w.heap.size, 3, none⟩ = some (.int .u8 a3) := by go_simp
    have f4 : w1.cell? ⟨w.heap.size, 4, none⟩ = some (.int .u8 a4) := by go_simp
    have f5 : w1.cell? ⟨w.heap.size, 5, none⟩ = some (.int .u8 a5) := by go_simp
    have g0 : w1.cell? ⟨w.heap.size + 1, 0, none⟩ = some (.int .u8 b0) := by go_simp
    have g1 : w1.cell? ⟨w.heap.size + 1, 1, none⟩ = some (.int .u8 b1) := by go_simp
    have g2 : w1.cell? ⟨w.heap.size + 1, 2, none⟩ = some (.int .u8 b2) := by go_simp
    have g3 : w1.cell? ⟨w.heap.size + 1, 3, none⟩ = some (.int .u8 b3) := by go_simp
    have g4 : w1.cell? ⟨w.heap.size + 1, 4, none⟩ = some (.int .u8 b4) := by go_simp
    have g5 : w1.cell? ⟨w.heap.size + 1, 5, none⟩ = some (.int .u8 b5) := by go_simp
    replace f0 := cell_regrown f0
    replace f1 := cell_regrown f1
    replace f2 := cell_regrown f2
    replace f3 := cell_regrown f3
    replace f4 := cell_regrown f4
    replace f5 := cell_regrown f5
    replace g0 := cell_regrown g0
    replace g1 := cell_regrown g1
    replace g2 := cell_regrown g2
    replace g3 := cell_regrown g3
    replace g4 := cell_regrown g4
    replace g5 := cell_regrown g5
    clear hc hf
    have CA := Lib.hid fun (d : Nat) (os : Array Obj) => Calls.regrown_of (HTa.out (Sort.grow (redrawn w1 d) os))
    have CB := Lib.hid fun (d : Nat) (os : Array Obj) => Calls.regrown_of (HTb.out (Sort.grow (redrawn w1 d) os))
    have hq := HQ.out
    have hl := HL.out
    have he := HE.out
    refine wp_region_quiet_below (by kernel_rfl) (by kernel_rfl) ?_
    repeat (go_big_quiet_step ((go_at_call 11; first | (with_reducible exact CA.out _ _) | (with_reducible exact CB.out _ _))))
    refine wpQuiet_nil ?_
    intro _ hw'
    obtain ⟨⟨dq, osq⟩, hw''⟩ := hw'
    subst hw''
    have HB7 := Lib.hid (bthen HB.out (below_regrown w1 dq osq))
    clear f0 f1 f2 f3 f4 f5 g0 g1 g2 g3 g4 g5 CA CB hq hl he
    generalize Sort.grow (redrawn w1 dq) osq = W7 at *
    go_wp2_with fail
    go_ret
    exact ⟨rfl, HB7.out⟩
end Go.Proofs.Ytncjleleeananaa
